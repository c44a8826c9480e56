/- KTb: several texts in one (kmerge.py). -/
import Derived.Test.YtoodpajbefffhaaGreatDoorReTa
import Derived.Lib.AppendIntMem
import Derived.Deep.LoopGhost
import Derived.Lib.SlBytesConst
/- The text of a tree with kids (gen_retb.py). -/
namespace Go.Proofs.YtoodpajbefffhaaGreatDoor
open Go.RowKit

/-- The table that the texts of numbers read. -/
def TPr (w : World) : Prop := Lib.TabIs Tryz.prog w "internal/strconv.uint64pow10" .u64 Lib.pow10Tab
theorem TPr.below {W0 w : World} (h : TPr W0) (hb : Below W0.heap.size W0 w) : TPr w := Go.Joins.tab_stays (g := 23) (by kernel_rfl) h hb (Nat.le_refl _)
theorem itoa_any (n : Int) (w : World) (h0 : -9223372036854775808 ≤ n) (h1 : n ≤ 9223372036854775807) (h : TPr w) :
    Calls Tryz.prog 46 #[.int .i64 n] w fun e w' => e = .returned (.string ⟨(Lib.itoa n).toArray⟩) ∧ Below w.heap.size w w' := by
  refine (Tryz.strconv_Itoa n h0 h1 w h).mono ?_
  rintro e w' ⟨rfl, k, os, rfl⟩
  exact ⟨rfl, Lib.below_grow _ w (Nat.le_refl _) k os⟩
set_option maxHeartbeats 4000000 in
theorem bound_any (n : Int) (w : World) (h0 : -9223372036854775808 ≤ n) (h1 : n ≤ 9223372036854775807) (h : TPr w) :
    Calls Tryz.prog 69 #[.int .i64 n] w fun e w' => e = .returned (.string ⟨(maxT n).toArray⟩) ∧ Below w.heap.size w w' := by
  have HI := Lib.hid (itoa_any n w h0 h1 h)
  by_cases hn : n = -1
  · subst hn
    go_enter Tryz.func69, Tryz.ntmps69
    go_wp2
    go_ret
    exact ⟨rfl, Below.refl _ _⟩
  · have e1 : (n == -1) = false := by simpa using hn
    have HM : Hid (maxT n = Lib.itoa n) := Lib.hid (by unfold maxT; rw [if_neg hn])
    rw [HM.out]
    clear hn h
    go_enter Tryz.func69, Tryz.ntmps69
    go_wp2_with fail
    refine HI.out.mono ?_
    rintro x w1 ⟨rfl, hb⟩
    have HB := Lib.hid hb
    clear hb
    go_wp2
    go_ret
    exact ⟨rfl, HB.out⟩
theorem str_row {w : World} {b : Nat} {vs : List Value} (hb : w.heap[b]? = some (.cells vs.toArray 9 (0, 0))) (B : Nat) (hB : B ≤ b) (hl : vs.length ≤ 3) : w.ownsRow B 9 1 (.slice (some ⟨b, 0, none⟩) vs.length vs.length) vs.length vs :=
  ⟨by omega, Or.inr ⟨b, vs.length, _, rfl, hB, hb, Nat.le_refl _, by unfold maxLen; omega, by simp, by simp⟩⟩
/-- The state of the loop over the kids. -/
structure TxL (W : World) (nh : Nat) (h : List (List UInt8)) (l : List Nd) (k : Nat) (v : Value) (wr : World) : Prop where
  bel : Below W.heap.size W wr
  own : wr.ownsRow W.heap.size 9 1 v (nh + k) ((h ++ (l.take k).map Nd.txt).map strV)

set_option maxRecDepth 100000 in
set_option maxHeartbeats 8000000 in
theorem text_cat (n : Nd) (l : List Nd) (a : Option Addr) (m c : Nat) (S : Nat → Prop) (w : World) (hk : n.kd = 4) (hl : n.kids = fo l) (hin : n.In w S (.slice a m c)) (_hP : TPr w) (_hf1 : -9223372036854775808 ≤ n.mn ∧ n.mn ≤ 9223372036854775807) (_hf2 : -9223372036854775808 ≤ n.mx ∧ n.mx ≤ 9223372036854775807) (_hf3 : -9223372036854775808 ≤ n.gp ∧ n.gp ≤ 9223372036854775807) (hnl : l.length ≤ 1000000) (hjl : (Lib.join (([[99, 97, 116]]) ++ l.map Nd.txt) [32]).length ≤ 140737488355328)
    (ih : ∀ k (h : k < l.length) a' m' c' W, (l[k]).In w S (.slice a' m' c') → Below w.heap.size w W → Calls Tryz.prog 43 #[(l[k]).v (.slice a' m' c')] W (TxP (l[k]) W)) :
    Calls Tryz.prog 43 #[n.v (.slice a m c)] w (TxP n w) := by
  obtain ⟨W, hW⟩ : ∃ W, W = w.alloc (.cells (n.cells (.slice a m c)).toArray 33) := ⟨_, rfl⟩
  have hbx : W.heap[w.heap.size]? = some (.cells (n.cells (.slice a m c)).toArray 33 (0, 0)) := by rw [hW]; exact alloc_last w _
  have hb : Below w.heap.size w W := by rw [hW]; exact (Below.refl _ _).alloc (Nat.le_refl _) _
  have HNZ : Hid (W.heap.size = w.heap.size + 1) := Lib.hid (by rw [hW]; simp)
  have c0 : W.cell? ⟨w.heap.size, 0, none⟩ = some (.int .i64 4) := (Lib.cell_of_heap hbx 0).trans (by rw [← hk]; rfl)
  have HTX : Hid (n.txt = parT (([[99, 97, 116]]) ++ l.map Nd.txt)) := Lib.hid (by unfold Nd.txt nodeT headT; rw [hk, hl, txt_fo]; rfl)
  have hlen : m = l.length := by
    obtain ⟨ks, h1, _⟩ := hin
    obtain ⟨_, cap, e⟩ := h1.shape
    simp only [Value.slice.injEq] at e
    rw [e.2.1, hl, fo_len]
  subst hlen
  have HKD : Hid (∀ k (h : k < l.length), ∃ kg kcap cur kv, Value.slice a l.length c = .slice (some ⟨kg, 0, none⟩) l.length kcap ∧ kg < w.heap.size ∧ w.heap[kg]? = some (.cells cur 33 (0, 0)) ∧ (l[k]).In w S kv ∧ (∀ i u, ((l[k]).cells kv)[i]? = some u → cur[k * 9 + i]? = some u)) := Lib.hid (fun k h => by
    obtain ⟨ks, ⟨hown, _⟩, hlay⟩ := hin
    rw [hl] at hlay
    obtain ⟨kv, hki, hkc⟩ := lay_at hlay (List.getElem?_eq_getElem h)
    obtain ⟨_, ⟨hn0, hz⟩ | ⟨g, cap, cur, hv, _, hg, hnc, _, hcs, htk⟩⟩ := hown
    · rw [hl, fo_len] at hz
      omega
    · refine ⟨g, cap, cur, kv, ?_, lt_blkB hg, hg, hki, fun i u hu => ?_⟩
      · simp only [Value.slice.injEq] at hv ⊢
        exact ⟨hv.1, trivial, hv.2.2⟩
      · have hi9 : i < 9 := (List.getElem?_eq_some_iff.1 hu).1
        have h1 := (hkc i hi9).trans hu
        rw [← htk, List.getElem?_take] at h1
        split at h1
        · simpa using h1
        · cases h1)
  have HIH := Lib.hid ih
  have HLN : Hid ((Lib.join (([[99, 97, 116]]) ++ l.map Nd.txt) (ByteArray.data ⟨#[32]⟩).toList).length ≤ 140737488355328) := Lib.hid hjl
  have HBX := Lib.hid hbx
  have HBW := Lib.hid hb
  have HWE := Lib.hid hW
  have HNV : Hid (n.v (.slice a l.length c) = .agg (n.cells (.slice a l.length c)).toArray) := Lib.hid rfl
  rw [HNV.out]
  obtain ⟨W1, hW1⟩ : ∃ W1, W1 = W.alloc (.cells #[.string ⟨#[99, 97, 116]⟩] 9) := ⟨_, rfl⟩
  have hb1 : Below W.heap.size W W1 := by rw [hW1]; exact (Below.refl _ _).alloc (Nat.le_refl _) _
  have hN1 : W1.heap[W.heap.size]? = some (.cells #[.string ⟨#[99, 97, 116]⟩] 9 (0, 0)) := by rw [hW1]; exact alloc_last _ _
  have HO1 : Hid (W1.ownsRow W.heap.size 9 1 (.slice (some ⟨W.heap.size, 0, none⟩) 1 1) 1 (([[99, 97, 116]]).map strV)) := Lib.hid (str_row (vs := [.string ⟨#[99, 97, 116]⟩]) hN1 _ (Nat.le_refl _) (by decide))
  have HB1 := Lib.hid hb1
  have c8 : W1.cell? ⟨w.heap.size, 8, none⟩ = some (.slice a l.length c) := (Lib.cell_of_heap (blk_below hbx hb1) 8).trans rfl
  have HW1 := Lib.hid hW1
  clear hbx hb hW hk hl hin _hP _hf1 _hf2 _hf3 hjl ih hW1 hb1 hN1
  unfold TxP
  generalize (n.cells (.slice a l.length c)).toArray = cs at *
  go_enter Tryz.func43, Tryz.ntmps43
  go_upto_region 1 with fail
  rw [← HWE.out]
  go_upto_region 20 with fail
  rw [← HW1.out]
  clear c0
  obtain ⟨i1, ki, kz0, kz1, kz2⟩ := info_parts string_row
  have HKI := Lib.hid ki
  have HZ0 := Lib.hid kz0
  have HZ1 := Lib.hid kz1
  have HZ2 := Lib.hid kz2
  clear ki kz0 kz1 kz2
  go_upto_region 21 with fail
  clear c8
  go_loopg [3, 45] (l.length) (fun g v i wr => ∃ k : Nat, g = l.length - k ∧ k ≤ l.length ∧ i = .int .i64 k ∧ Aside (TxL W 1 ([[99, 97, 116]]) l k v wr))
  case atStart => exact ⟨0, by omega, Nat.zero_le _, rfl, ⟨HB1.out, by simpa using HO1.out⟩⟩
  case round =>
    obtain ⟨k, rfl, hk, rfl, hal⟩ := hrel
    have hI := hal.out
    have hbr := hI.bel
    have hnz : w.heap.size < W.heap.size := by have := HNZ.out; omega
    have hwz := hbr.size
    by_cases hlt : k < l.length
    · obtain ⟨kg, kcap, cur, kv, hka, hgw, hcur, hin, hcl⟩ := HKD.out k hlt
      obtain ⟨ta, tm, tc, rfl⟩ := hin.shape
      simp only [Value.slice.injEq] at hka
      obtain ⟨rfl, _, rfl⟩ := hka
      have hlti : (k : Int) < (l.length : Int) := by omega
      have hk0 : (0 : Int) ≤ (k : Int) := by omega
      have hX : wr.heap[kg]? = some (.cells cur 33 (0, 0)) := (hbr.block kg (by omega)).trans ((HBW.out.block kg hgw).trans hcur)
      have hgk := lt_blkB hX
      obtain ⟨nd, hnd⟩ : ∃ nd, nd = l[k] := ⟨_, rfl⟩
      rw [← hnd] at hin hcl
      have hbn : w.heap.size < wr.heap.size := by omega
      obtain ⟨W5, hW5⟩ : ∃ W5, W5 = wr.alloc (.cells zero9 33) := ⟨_, rfl⟩
      have hT5 : W5.heap[wr.heap.size]? = some (.cells zero9 33 (0, 0)) := by rw [hW5]; exact alloc_last _ _
      obtain ⟨W6, hW6⟩ : ∃ W6, W6 = W5.setRow wr.heap.size (nd.cells (.slice ta tm tc)).toArray := ⟨_, rfl⟩
      have hb6 : Below wr.heap.size wr W6 := by rw [hW6, hW5]; exact below_setRow ((Below.refl _ _).alloc (Nat.le_refl _) _) (Nat.le_refl _) _
      have HT6 : Hid (W6.heap[wr.heap.size]? = some (.cells (nd.cells (.slice ta tm tc)).toArray 33 (0, 0))) := Lib.hid (by rw [hW6]; exact setRow_selfR hT5 _)
      have hbw6 : Below w.heap.size w W6 := HBW.out.trans ((hbr.mono (by omega)).trans (hb6.mono (by omega)))
      have HRE := Lib.hid (HIH.out k hlt ta tm tc W6 (by rw [← hnd]; exact hin) hbw6)
      rw [← hnd] at HRE
      have HB6 : Hid (Below W.heap.size W W6) := Lib.hid (hbr.trans (hb6.mono hwz))
      have hz6 : wr.heap.size < W6.heap.size := lt_blkB HT6.out
      obtain ⟨va, vc, hv⟩ := own_shapeT hI.own
      subst hv
      have HO6 : Hid (W6.ownsRow W.heap.size 9 1 (.slice va (1 + k) vc) (1 + k) ((([[99, 97, 116]]) ++ (l.take k).map Nd.txt).map strV)) := Lib.hid (own_same hI.own fun b hb cs hc => hb6.block b (lt_blkB hc))
      have HX := Lib.hid hX
      have HCL := Lib.hid hcl
      have HT5 := Lib.hid hT5
      have HW5 := Lib.hid hW5
      have HW6 := Lib.hid hW6
      have HTK : Hid ((l.take (k + 1)).map Nd.txt = (l.take k).map Nd.txt ++ [nd.txt]) := Lib.hid (by rw [hnd, List.take_succ_eq_append_getElem hlt, List.map_append]; rfl)
      obtain ⟨xs, hxs⟩ : ∃ xs, xs = (([[99, 97, 116]]) ++ (l.take k).map Nd.txt).map strV := ⟨_, rfl⟩
      rw [← hxs] at HO6
      have HXS := Lib.hid hxs
      clear hal hI hbr hX hcl hcur hin hnd hxs hW5 hT5 hW6 hb6 hbw6 hgw
      unfold zero9 at HW5
      go_upto_region 23 with (first | (refine wpList_load_part rfl 33 _ rfl kg (k * 9) rfl _ cur (nd.cells (.slice ta tm tc)) (0, 0) _ HX.out HCL.out Tryz.underlying33 rfl re_size ?_) | (rw [← HW5.out]; refine wpList_store_re rfl _ _ rfl rfl wr.heap.size nd ta tm tc rfl rfl _ HT5.out rfl ?_; rw [← HW6.out]) | fail)
      go_wp2_with (first | (refine wpList_load_row rfl 33 _ rfl wr.heap.size rfl _ _ (0, 0) _ HT6.out Tryz.underlying33 rfl re_size ?_) | fail)
      refine HRE.out.mono ?_
      rintro x w7 ⟨rfl, hb7⟩
      obtain ⟨s, hs⟩ : ∃ s, s = (⟨nd.txt.toArray⟩ : ByteArray) := ⟨_, rfl⟩
      rw [← hs]
      obtain ⟨W8, hW8⟩ : ∃ W8, W8 = w7.alloc (.cells #[.string s] 9) := ⟨_, rfl⟩
      have hb8 : Below W6.heap.size W6 W8 := by rw [hW8]; exact hb7.alloc hb7.size _
      have hN8 : W8.heap[w7.heap.size]? = some (.cells #[.string s] 9 (0, 0)) := by rw [hW8]; exact alloc_last _ _
      have hz8 := lt_blkB hN8
      have hz7 := hb7.size
      have hO8 : W8.ownsRow W.heap.size 9 1 (.slice va (1 + k) vc) (1 + k) xs := own_same HO6.out fun b hb cs hc => hb8.block b (lt_blkB hc)
      have HB8 : Hid (Below W.heap.size W W8) := Lib.hid (HB6.out.trans (hb8.mono (by omega)))
      have HN8 := Lib.hid hN8
      have HO8 := Lib.hid hO8
      have HSV : Hid ([Value.string s] = [nd.txt].map strV) := Lib.hid (by rw [hs]; rfl)
      clear hb7 hb8 hN8 hO8 hs HO6 HB6 HRE HT6 HX HCL HT5
      subst hW8
      go_wp2_with (first | (at_builtin; refine wpList_append_own_at _ rfl (.tmp 49) (.tmp 52) 107 rfl W.heap.size 9 i1 (.string ⟨#[]⟩) 1 16 Tryz.underlying107 HKI.out HZ0.out HZ1.out HZ2.out rfl (by decide) (.slice va (1 + k) vc) (1 + k) xs rfl HO8.out ⟨w7.heap.size, 0, none⟩ 1 1 [.string s] rfl rfl ?hnews ?hone ?h63 ?hby ?hba ?_))
      case hnews => (intro j u hj; rw [addz]; rw [Lib.cell_of_heap HN8.out]; simpa using hj)
      case hone => (intro u hu; rw [List.mem_singleton.1 hu]; rfl)
      case h63 => (unfold maxLen; omega)
      case hby => omega
      case hba => omega
      intro v' w' ho' hg' _ _
      have hob := own_row HO8.out
      have hbf : Below W.heap.size W w' := by
        have h8 := HB8.out
        exact ⟨hg'.os.trans h8.os, hg'.tape.trans h8.tape, hg'.output.trans h8.output, Nat.le_trans h8.size hg'.size, fun i hi => (hg'.block i (by have := h8.size; omega) (fun e => by have := (hob i e.symm).1; omega)).trans (h8.block i hi)⟩
      have HBF := Lib.hid hbf
      have HOF := Lib.hid (show w'.ownsRow W.heap.size 9 1 v' (1 + (k + 1)) ((([[99, 97, 116]]) ++ (l.take (k + 1)).map Nd.txt).map strV) from by
        rw [HTK.out, ← List.append_assoc, List.map_append, ← HSV.out, ← HXS.out, ← Nat.add_assoc]
        exact ho')
      clear hob hbf ho' hg' HO8 HB8 HN8
      go_wp2_with fail
      go_roundg (l.length - (k + 1))
      case measure => omega
      case rel => exact ⟨k + 1, rfl, by omega, by simp, ⟨HBF.out, HOF.out⟩⟩
    · obtain rfl : k = l.length := by omega
      have hnl : ¬ (l.length : Int) < (l.length : Int) := by omega
      obtain ⟨va, vc, hv⟩ := own_shapeT hI.own
      subst hv
      have hwd : (([[99, 97, 116]]) ++ (l.take l.length).map Nd.txt) = ([[99, 97, 116]]) ++ l.map Nd.txt := by rw [List.take_length]
      have hown := hI.own
      rw [hwd] at hown
      have hwl : (([[99, 97, 116]]) ++ l.map Nd.txt).length = 1 + l.length := by simp only [List.length_append, List.length_map, List.length_cons, List.length_nil] <;> omega
      have hown2 : wr.ownsRow W.heap.size 9 1 (.slice va (1 + l.length) vc) (([[99, 97, 116]]) ++ l.map Nd.txt).length ((([[99, 97, 116]]) ++ l.map Nd.txt).map strV) := by rw [hwl]; exact hown
      have HJ := Lib.hid (join_own ⟨#[32]⟩ wr hown2 (by rw [hwl]; omega) HLN.out)
      have hjs : (⟨(Lib.join (([[99, 97, 116]]) ++ l.map Nd.txt) [32]).toArray⟩ : ByteArray).size ≤ 140737488355328 := HLN.out
      have HTS : Hid ((⟨#[40]⟩ : ByteArray) ++ ⟨(Lib.join (([[99, 97, 116]]) ++ l.map Nd.txt) [32]).toArray⟩ ++ ⟨#[41]⟩ = ⟨n.txt.toArray⟩) := Lib.hid (by rw [HTX.out]; apply ByteArray.ext; simp [parT])
      have HBR := Lib.hid hbr
      change Hid (Calls _ _ _ _ fun e w' => e = .returned (.string ⟨(Lib.join (([[99, 97, 116]]) ++ l.map Nd.txt) [32]).toArray⟩) ∧ _) at HJ
      generalize (⟨(Lib.join (([[99, 97, 116]]) ++ l.map Nd.txt) [32]).toArray⟩ : ByteArray) = J at *
      clear hal hI hbr hown hown2 hwd hwl hlt hk
      go_wp2_with fail
      refine HJ.out.mono ?_
      rintro x w9 ⟨rfl, hb9⟩
      have HBF : Hid (Below w.heap.size w w9) := Lib.hid (HBW.out.trans ((HBR.out.mono (by omega)).trans (hb9.mono (by omega))))
      clear hb9
      go_wp2
      go_ret
      exact ⟨congrArg (fun b => Ending.returned (Value.string b)) HTS.out, HBF.out⟩
set_option maxRecDepth 100000 in
set_option maxHeartbeats 8000000 in
theorem text_alt (n : Nd) (l : List Nd) (a : Option Addr) (m c : Nat) (S : Nat → Prop) (w : World) (hk : n.kd = 5) (hl : n.kids = fo l) (hin : n.In w S (.slice a m c)) (_hP : TPr w) (_hf1 : -9223372036854775808 ≤ n.mn ∧ n.mn ≤ 9223372036854775807) (_hf2 : -9223372036854775808 ≤ n.mx ∧ n.mx ≤ 9223372036854775807) (_hf3 : -9223372036854775808 ≤ n.gp ∧ n.gp ≤ 9223372036854775807) (hnl : l.length ≤ 1000000) (hjl : (Lib.join (([[97, 108, 116]]) ++ l.map Nd.txt) [32]).length ≤ 140737488355328)
    (ih : ∀ k (h : k < l.length) a' m' c' W, (l[k]).In w S (.slice a' m' c') → Below w.heap.size w W → Calls Tryz.prog 43 #[(l[k]).v (.slice a' m' c')] W (TxP (l[k]) W)) :
    Calls Tryz.prog 43 #[n.v (.slice a m c)] w (TxP n w) := by
  obtain ⟨W, hW⟩ : ∃ W, W = w.alloc (.cells (n.cells (.slice a m c)).toArray 33) := ⟨_, rfl⟩
  have hbx : W.heap[w.heap.size]? = some (.cells (n.cells (.slice a m c)).toArray 33 (0, 0)) := by rw [hW]; exact alloc_last w _
  have hb : Below w.heap.size w W := by rw [hW]; exact (Below.refl _ _).alloc (Nat.le_refl _) _
  have HNZ : Hid (W.heap.size = w.heap.size + 1) := Lib.hid (by rw [hW]; simp)
  have c0 : W.cell? ⟨w.heap.size, 0, none⟩ = some (.int .i64 5) := (Lib.cell_of_heap hbx 0).trans (by rw [← hk]; rfl)
  have HTX : Hid (n.txt = parT (([[97, 108, 116]]) ++ l.map Nd.txt)) := Lib.hid (by unfold Nd.txt nodeT headT; rw [hk, hl, txt_fo]; rfl)
  have hlen : m = l.length := by
    obtain ⟨ks, h1, _⟩ := hin
    obtain ⟨_, cap, e⟩ := h1.shape
    simp only [Value.slice.injEq] at e
    rw [e.2.1, hl, fo_len]
  subst hlen
  have HKD : Hid (∀ k (h : k < l.length), ∃ kg kcap cur kv, Value.slice a l.length c = .slice (some ⟨kg, 0, none⟩) l.length kcap ∧ kg < w.heap.size ∧ w.heap[kg]? = some (.cells cur 33 (0, 0)) ∧ (l[k]).In w S kv ∧ (∀ i u, ((l[k]).cells kv)[i]? = some u → cur[k * 9 + i]? = some u)) := Lib.hid (fun k h => by
    obtain ⟨ks, ⟨hown, _⟩, hlay⟩ := hin
    rw [hl] at hlay
    obtain ⟨kv, hki, hkc⟩ := lay_at hlay (List.getElem?_eq_getElem h)
    obtain ⟨_, ⟨hn0, hz⟩ | ⟨g, cap, cur, hv, _, hg, hnc, _, hcs, htk⟩⟩ := hown
    · rw [hl, fo_len] at hz
      omega
    · refine ⟨g, cap, cur, kv, ?_, lt_blkB hg, hg, hki, fun i u hu => ?_⟩
      · simp only [Value.slice.injEq] at hv ⊢
        exact ⟨hv.1, trivial, hv.2.2⟩
      · have hi9 : i < 9 := (List.getElem?_eq_some_iff.1 hu).1
        have h1 := (hkc i hi9).trans hu
        rw [← htk, List.getElem?_take] at h1
        split at h1
        · simpa using h1
        · cases h1)
  have HIH := Lib.hid ih
  have HLN : Hid ((Lib.join (([[97, 108, 116]]) ++ l.map Nd.txt) (ByteArray.data ⟨#[32]⟩).toList).length ≤ 140737488355328) := Lib.hid hjl
  have HBX := Lib.hid hbx
  have HBW := Lib.hid hb
  have HWE := Lib.hid hW
  have HNV : Hid (n.v (.slice a l.length c) = .agg (n.cells (.slice a l.length c)).toArray) := Lib.hid rfl
  rw [HNV.out]
  obtain ⟨W1, hW1⟩ : ∃ W1, W1 = W.alloc (.cells #[.string ⟨#[97, 108, 116]⟩] 9) := ⟨_, rfl⟩
  have hb1 : Below W.heap.size W W1 := by rw [hW1]; exact (Below.refl _ _).alloc (Nat.le_refl _) _
  have hN1 : W1.heap[W.heap.size]? = some (.cells #[.string ⟨#[97, 108, 116]⟩] 9 (0, 0)) := by rw [hW1]; exact alloc_last _ _
  have HO1 : Hid (W1.ownsRow W.heap.size 9 1 (.slice (some ⟨W.heap.size, 0, none⟩) 1 1) 1 (([[97, 108, 116]]).map strV)) := Lib.hid (str_row (vs := [.string ⟨#[97, 108, 116]⟩]) hN1 _ (Nat.le_refl _) (by decide))
  have HB1 := Lib.hid hb1
  have c8 : W1.cell? ⟨w.heap.size, 8, none⟩ = some (.slice a l.length c) := (Lib.cell_of_heap (blk_below hbx hb1) 8).trans rfl
  have HW1 := Lib.hid hW1
  clear hbx hb hW hk hl hin _hP _hf1 _hf2 _hf3 hjl ih hW1 hb1 hN1
  unfold TxP
  generalize (n.cells (.slice a l.length c)).toArray = cs at *
  go_enter Tryz.func43, Tryz.ntmps43
  go_upto_region 1 with fail
  rw [← HWE.out]
  go_upto_region 20 with fail
  rw [← HW1.out]
  clear c0
  obtain ⟨i1, ki, kz0, kz1, kz2⟩ := info_parts string_row
  have HKI := Lib.hid ki
  have HZ0 := Lib.hid kz0
  have HZ1 := Lib.hid kz1
  have HZ2 := Lib.hid kz2
  clear ki kz0 kz1 kz2
  go_upto_region 21 with fail
  clear c8
  go_loopg [3, 45] (l.length) (fun g v i wr => ∃ k : Nat, g = l.length - k ∧ k ≤ l.length ∧ i = .int .i64 k ∧ Aside (TxL W 1 ([[97, 108, 116]]) l k v wr))
  case atStart => exact ⟨0, by omega, Nat.zero_le _, rfl, ⟨HB1.out, by simpa using HO1.out⟩⟩
  case round =>
    obtain ⟨k, rfl, hk, rfl, hal⟩ := hrel
    have hI := hal.out
    have hbr := hI.bel
    have hnz : w.heap.size < W.heap.size := by have := HNZ.out; omega
    have hwz := hbr.size
    by_cases hlt : k < l.length
    · obtain ⟨kg, kcap, cur, kv, hka, hgw, hcur, hin, hcl⟩ := HKD.out k hlt
      obtain ⟨ta, tm, tc, rfl⟩ := hin.shape
      simp only [Value.slice.injEq] at hka
      obtain ⟨rfl, _, rfl⟩ := hka
      have hlti : (k : Int) < (l.length : Int) := by omega
      have hk0 : (0 : Int) ≤ (k : Int) := by omega
      have hX : wr.heap[kg]? = some (.cells cur 33 (0, 0)) := (hbr.block kg (by omega)).trans ((HBW.out.block kg hgw).trans hcur)
      have hgk := lt_blkB hX
      obtain ⟨nd, hnd⟩ : ∃ nd, nd = l[k] := ⟨_, rfl⟩
      rw [← hnd] at hin hcl
      have hbn : w.heap.size < wr.heap.size := by omega
      obtain ⟨W5, hW5⟩ : ∃ W5, W5 = wr.alloc (.cells zero9 33) := ⟨_, rfl⟩
      have hT5 : W5.heap[wr.heap.size]? = some (.cells zero9 33 (0, 0)) := by rw [hW5]; exact alloc_last _ _
      obtain ⟨W6, hW6⟩ : ∃ W6, W6 = W5.setRow wr.heap.size (nd.cells (.slice ta tm tc)).toArray := ⟨_, rfl⟩
      have hb6 : Below wr.heap.size wr W6 := by rw [hW6, hW5]; exact below_setRow ((Below.refl _ _).alloc (Nat.le_refl _) _) (Nat.le_refl _) _
      have HT6 : Hid (W6.heap[wr.heap.size]? = some (.cells (nd.cells (.slice ta tm tc)).toArray 33 (0, 0))) := Lib.hid (by rw [hW6]; exact setRow_selfR hT5 _)
      have hbw6 : Below w.heap.size w W6 := HBW.out.trans ((hbr.mono (by omega)).trans (hb6.mono (by omega)))
      have HRE := Lib.hid (HIH.out k hlt ta tm tc W6 (by rw [← hnd]; exact hin) hbw6)
      rw [← hnd] at HRE
      have HB6 : Hid (Below W.heap.size W W6) := Lib.hid (hbr.trans (hb6.mono hwz))
      have hz6 : wr.heap.size < W6.heap.size := lt_blkB HT6.out
      obtain ⟨va, vc, hv⟩ := own_shapeT hI.own
      subst hv
      have HO6 : Hid (W6.ownsRow W.heap.size 9 1 (.slice va (1 + k) vc) (1 + k) ((([[97, 108, 116]]) ++ (l.take k).map Nd.txt).map strV)) := Lib.hid (own_same hI.own fun b hb cs hc => hb6.block b (lt_blkB hc))
      have HX := Lib.hid hX
      have HCL := Lib.hid hcl
      have HT5 := Lib.hid hT5
      have HW5 := Lib.hid hW5
      have HW6 := Lib.hid hW6
      have HTK : Hid ((l.take (k + 1)).map Nd.txt = (l.take k).map Nd.txt ++ [nd.txt]) := Lib.hid (by rw [hnd, List.take_succ_eq_append_getElem hlt, List.map_append]; rfl)
      obtain ⟨xs, hxs⟩ : ∃ xs, xs = (([[97, 108, 116]]) ++ (l.take k).map Nd.txt).map strV := ⟨_, rfl⟩
      rw [← hxs] at HO6
      have HXS := Lib.hid hxs
      clear hal hI hbr hX hcl hcur hin hnd hxs hW5 hT5 hW6 hb6 hbw6 hgw
      unfold zero9 at HW5
      go_upto_region 23 with (first | (refine wpList_load_part rfl 33 _ rfl kg (k * 9) rfl _ cur (nd.cells (.slice ta tm tc)) (0, 0) _ HX.out HCL.out Tryz.underlying33 rfl re_size ?_) | (rw [← HW5.out]; refine wpList_store_re rfl _ _ rfl rfl wr.heap.size nd ta tm tc rfl rfl _ HT5.out rfl ?_; rw [← HW6.out]) | fail)
      go_wp2_with (first | (refine wpList_load_row rfl 33 _ rfl wr.heap.size rfl _ _ (0, 0) _ HT6.out Tryz.underlying33 rfl re_size ?_) | fail)
      refine HRE.out.mono ?_
      rintro x w7 ⟨rfl, hb7⟩
      obtain ⟨s, hs⟩ : ∃ s, s = (⟨nd.txt.toArray⟩ : ByteArray) := ⟨_, rfl⟩
      rw [← hs]
      obtain ⟨W8, hW8⟩ : ∃ W8, W8 = w7.alloc (.cells #[.string s] 9) := ⟨_, rfl⟩
      have hb8 : Below W6.heap.size W6 W8 := by rw [hW8]; exact hb7.alloc hb7.size _
      have hN8 : W8.heap[w7.heap.size]? = some (.cells #[.string s] 9 (0, 0)) := by rw [hW8]; exact alloc_last _ _
      have hz8 := lt_blkB hN8
      have hz7 := hb7.size
      have hO8 : W8.ownsRow W.heap.size 9 1 (.slice va (1 + k) vc) (1 + k) xs := own_same HO6.out fun b hb cs hc => hb8.block b (lt_blkB hc)
      have HB8 : Hid (Below W.heap.size W W8) := Lib.hid (HB6.out.trans (hb8.mono (by omega)))
      have HN8 := Lib.hid hN8
      have HO8 := Lib.hid hO8
      have HSV : Hid ([Value.string s] = [nd.txt].map strV) := Lib.hid (by rw [hs]; rfl)
      clear hb7 hb8 hN8 hO8 hs HO6 HB6 HRE HT6 HX HCL HT5
      subst hW8
      go_wp2_with (first | (at_builtin; refine wpList_append_own_at _ rfl (.tmp 49) (.tmp 52) 107 rfl W.heap.size 9 i1 (.string ⟨#[]⟩) 1 16 Tryz.underlying107 HKI.out HZ0.out HZ1.out HZ2.out rfl (by decide) (.slice va (1 + k) vc) (1 + k) xs rfl HO8.out ⟨w7.heap.size, 0, none⟩ 1 1 [.string s] rfl rfl ?hnews ?hone ?h63 ?hby ?hba ?_))
      case hnews => (intro j u hj; rw [addz]; rw [Lib.cell_of_heap HN8.out]; simpa using hj)
      case hone => (intro u hu; rw [List.mem_singleton.1 hu]; rfl)
      case h63 => (unfold maxLen; omega)
      case hby => omega
      case hba => omega
      intro v' w' ho' hg' _ _
      have hob := own_row HO8.out
      have hbf : Below W.heap.size W w' := by
        have h8 := HB8.out
        exact ⟨hg'.os.trans h8.os, hg'.tape.trans h8.tape, hg'.output.trans h8.output, Nat.le_trans h8.size hg'.size, fun i hi => (hg'.block i (by have := h8.size; omega) (fun e => by have := (hob i e.symm).1; omega)).trans (h8.block i hi)⟩
      have HBF := Lib.hid hbf
      have HOF := Lib.hid (show w'.ownsRow W.heap.size 9 1 v' (1 + (k + 1)) ((([[97, 108, 116]]) ++ (l.take (k + 1)).map Nd.txt).map strV) from by
        rw [HTK.out, ← List.append_assoc, List.map_append, ← HSV.out, ← HXS.out, ← Nat.add_assoc]
        exact ho')
      clear hob hbf ho' hg' HO8 HB8 HN8
      go_wp2_with fail
      go_roundg (l.length - (k + 1))
      case measure => omega
      case rel => exact ⟨k + 1, rfl, by omega, by simp, ⟨HBF.out, HOF.out⟩⟩
    · obtain rfl : k = l.length := by omega
      have hnl : ¬ (l.length : Int) < (l.length : Int) := by omega
      obtain ⟨va, vc, hv⟩ := own_shapeT hI.own
      subst hv
      have hwd : (([[97, 108, 116]]) ++ (l.take l.length).map Nd.txt) = ([[97, 108, 116]]) ++ l.map Nd.txt := by rw [List.take_length]
      have hown := hI.own
      rw [hwd] at hown
      have hwl : (([[97, 108, 116]]) ++ l.map Nd.txt).length = 1 + l.length := by simp only [List.length_append, List.length_map, List.length_cons, List.length_nil] <;> omega
      have hown2 : wr.ownsRow W.heap.size 9 1 (.slice va (1 + l.length) vc) (([[97, 108, 116]]) ++ l.map Nd.txt).length ((([[97, 108, 116]]) ++ l.map Nd.txt).map strV) := by rw [hwl]; exact hown
      have HJ := Lib.hid (join_own ⟨#[32]⟩ wr hown2 (by rw [hwl]; omega) HLN.out)
      have hjs : (⟨(Lib.join (([[97, 108, 116]]) ++ l.map Nd.txt) [32]).toArray⟩ : ByteArray).size ≤ 140737488355328 := HLN.out
      have HTS : Hid ((⟨#[40]⟩ : ByteArray) ++ ⟨(Lib.join (([[97, 108, 116]]) ++ l.map Nd.txt) [32]).toArray⟩ ++ ⟨#[41]⟩ = ⟨n.txt.toArray⟩) := Lib.hid (by rw [HTX.out]; apply ByteArray.ext; simp [parT])
      have HBR := Lib.hid hbr
      change Hid (Calls _ _ _ _ fun e w' => e = .returned (.string ⟨(Lib.join (([[97, 108, 116]]) ++ l.map Nd.txt) [32]).toArray⟩) ∧ _) at HJ
      generalize (⟨(Lib.join (([[97, 108, 116]]) ++ l.map Nd.txt) [32]).toArray⟩ : ByteArray) = J at *
      clear hal hI hbr hown hown2 hwd hwl hlt hk
      go_wp2_with fail
      refine HJ.out.mono ?_
      rintro x w9 ⟨rfl, hb9⟩
      have HBF : Hid (Below w.heap.size w w9) := Lib.hid (HBW.out.trans ((HBR.out.mono (by omega)).trans (hb9.mono (by omega))))
      clear hb9
      go_wp2
      go_ret
      exact ⟨congrArg (fun b => Ending.returned (Value.string b)) HTS.out, HBF.out⟩
set_option maxRecDepth 100000 in
set_option maxHeartbeats 8000000 in
theorem text_grp (n : Nd) (l : List Nd) (a : Option Addr) (m c : Nat) (S : Nat → Prop) (w : World) (hk : n.kd = 7) (hl : n.kids = fo l) (hin : n.In w S (.slice a m c)) (hP : TPr w) (_hf1 : -9223372036854775808 ≤ n.mn ∧ n.mn ≤ 9223372036854775807) (_hf2 : -9223372036854775808 ≤ n.mx ∧ n.mx ≤ 9223372036854775807) (hf3 : -9223372036854775808 ≤ n.gp ∧ n.gp ≤ 9223372036854775807) (hnl : l.length ≤ 1000000) (hjl : (Lib.join (([[103, 114, 111, 117, 112], Lib.itoa n.gp]) ++ l.map Nd.txt) [32]).length ≤ 140737488355328)
    (ih : ∀ k (h : k < l.length) a' m' c' W, (l[k]).In w S (.slice a' m' c') → Below w.heap.size w W → Calls Tryz.prog 43 #[(l[k]).v (.slice a' m' c')] W (TxP (l[k]) W)) :
    Calls Tryz.prog 43 #[n.v (.slice a m c)] w (TxP n w) := by
  obtain ⟨W, hW⟩ : ∃ W, W = w.alloc (.cells (n.cells (.slice a m c)).toArray 33) := ⟨_, rfl⟩
  have hbx : W.heap[w.heap.size]? = some (.cells (n.cells (.slice a m c)).toArray 33 (0, 0)) := by rw [hW]; exact alloc_last w _
  have hb : Below w.heap.size w W := by rw [hW]; exact (Below.refl _ _).alloc (Nat.le_refl _) _
  have HNZ : Hid (W.heap.size = w.heap.size + 1) := Lib.hid (by rw [hW]; simp)
  have c0 : W.cell? ⟨w.heap.size, 0, none⟩ = some (.int .i64 7) := (Lib.cell_of_heap hbx 0).trans (by rw [← hk]; rfl)
  have HTX : Hid (n.txt = parT (([[103, 114, 111, 117, 112], Lib.itoa n.gp]) ++ l.map Nd.txt)) := Lib.hid (by unfold Nd.txt nodeT headT; rw [hk, hl, txt_fo]; rfl)
  have hlen : m = l.length := by
    obtain ⟨ks, h1, _⟩ := hin
    obtain ⟨_, cap, e⟩ := h1.shape
    simp only [Value.slice.injEq] at e
    rw [e.2.1, hl, fo_len]
  subst hlen
  have HKD : Hid (∀ k (h : k < l.length), ∃ kg kcap cur kv, Value.slice a l.length c = .slice (some ⟨kg, 0, none⟩) l.length kcap ∧ kg < w.heap.size ∧ w.heap[kg]? = some (.cells cur 33 (0, 0)) ∧ (l[k]).In w S kv ∧ (∀ i u, ((l[k]).cells kv)[i]? = some u → cur[k * 9 + i]? = some u)) := Lib.hid (fun k h => by
    obtain ⟨ks, ⟨hown, _⟩, hlay⟩ := hin
    rw [hl] at hlay
    obtain ⟨kv, hki, hkc⟩ := lay_at hlay (List.getElem?_eq_getElem h)
    obtain ⟨_, ⟨hn0, hz⟩ | ⟨g, cap, cur, hv, _, hg, hnc, _, hcs, htk⟩⟩ := hown
    · rw [hl, fo_len] at hz
      omega
    · refine ⟨g, cap, cur, kv, ?_, lt_blkB hg, hg, hki, fun i u hu => ?_⟩
      · simp only [Value.slice.injEq] at hv ⊢
        exact ⟨hv.1, trivial, hv.2.2⟩
      · have hi9 : i < 9 := (List.getElem?_eq_some_iff.1 hu).1
        have h1 := (hkc i hi9).trans hu
        rw [← htk, List.getElem?_take] at h1
        split at h1
        · simpa using h1
        · cases h1)
  have HIH := Lib.hid ih
  have HLN : Hid ((Lib.join (([[103, 114, 111, 117, 112], Lib.itoa n.gp]) ++ l.map Nd.txt) (ByteArray.data ⟨#[32]⟩).toList).length ≤ 140737488355328) := Lib.hid hjl
  have HBX := Lib.hid hbx
  have HBW := Lib.hid hb
  have HWE := Lib.hid hW
  have HNV : Hid (n.v (.slice a l.length c) = .agg (n.cells (.slice a l.length c)).toArray) := Lib.hid rfl
  rw [HNV.out]
  have HIT := Lib.hid (itoa_any n.gp W hf3.1 hf3.2 (hP.below hb))
  have c7 : W.cell? ⟨w.heap.size, 7, none⟩ = some (.int .i64 n.gp) := (Lib.cell_of_heap hbx 7).trans rfl
  clear hb hW hk hl hin hP _hf1 _hf2 hf3 hjl ih
  unfold TxP
  have HC8 : Hid ((n.cells (.slice a l.length c)).toArray[8]? = some (.slice a l.length c)) := Lib.hid rfl
  generalize (n.cells (.slice a l.length c)).toArray = cs at *
  clear hbx
  go_enter Tryz.func43, Tryz.ntmps43
  go_upto_region 1 with fail
  rw [← HWE.out]
  go_wp2_with fail
  refine HIT.out.mono ?_
  rintro x w0 ⟨rfl, hb0⟩
  obtain ⟨si, hsi⟩ : ∃ si, si = (⟨(Lib.itoa n.gp).toArray⟩ : ByteArray) := ⟨_, rfl⟩
  rw [← hsi]
  obtain ⟨W1, hW1⟩ : ∃ W1, W1 = w0.alloc (.cells #[.string ⟨#[103, 114, 111, 117, 112]⟩, .string si] 9) := ⟨_, rfl⟩
  have hb1 : Below W.heap.size W W1 := by rw [hW1]; exact hb0.alloc hb0.size _
  have hN1 : W1.heap[w0.heap.size]? = some (.cells #[.string ⟨#[103, 114, 111, 117, 112]⟩, .string si] 9 (0, 0)) := by rw [hW1]; exact alloc_last _ _
  have HO1 : Hid (W1.ownsRow W.heap.size 9 1 (.slice (some ⟨w0.heap.size, 0, none⟩) 2 2) 2 (([[103, 114, 111, 117, 112], Lib.itoa n.gp]).map strV)) := Lib.hid (by have := str_row (vs := [.string ⟨#[103, 114, 111, 117, 112]⟩, .string si]) hN1 W.heap.size hb0.size (by simp); rw [hsi] at this; exact this)
  have HB1 := Lib.hid hb1
  have c8 : W1.cell? ⟨w.heap.size, 8, none⟩ = some (.slice a l.length c) := (Lib.cell_of_heap (blk_below HBX.out hb1) 8).trans HC8.out
  have HW1 := Lib.hid hW1
  clear c0 c7 hb0 hsi hW1 hb1 hN1
  go_upto_region 20 with fail
  rw [← HW1.out]
  obtain ⟨i1, ki, kz0, kz1, kz2⟩ := info_parts string_row
  have HKI := Lib.hid ki
  have HZ0 := Lib.hid kz0
  have HZ1 := Lib.hid kz1
  have HZ2 := Lib.hid kz2
  clear ki kz0 kz1 kz2
  go_upto_region 21 with fail
  clear c8
  go_loopg [3, 45] (l.length) (fun g v i wr => ∃ k : Nat, g = l.length - k ∧ k ≤ l.length ∧ i = .int .i64 k ∧ Aside (TxL W 2 ([[103, 114, 111, 117, 112], Lib.itoa n.gp]) l k v wr))
  case atStart => exact ⟨0, by omega, Nat.zero_le _, rfl, ⟨HB1.out, by simpa using HO1.out⟩⟩
  case round =>
    obtain ⟨k, rfl, hk, rfl, hal⟩ := hrel
    have hI := hal.out
    have hbr := hI.bel
    have hnz : w.heap.size < W.heap.size := by have := HNZ.out; omega
    have hwz := hbr.size
    by_cases hlt : k < l.length
    · obtain ⟨kg, kcap, cur, kv, hka, hgw, hcur, hin, hcl⟩ := HKD.out k hlt
      obtain ⟨ta, tm, tc, rfl⟩ := hin.shape
      simp only [Value.slice.injEq] at hka
      obtain ⟨rfl, _, rfl⟩ := hka
      have hlti : (k : Int) < (l.length : Int) := by omega
      have hk0 : (0 : Int) ≤ (k : Int) := by omega
      have hX : wr.heap[kg]? = some (.cells cur 33 (0, 0)) := (hbr.block kg (by omega)).trans ((HBW.out.block kg hgw).trans hcur)
      have hgk := lt_blkB hX
      obtain ⟨nd, hnd⟩ : ∃ nd, nd = l[k] := ⟨_, rfl⟩
      rw [← hnd] at hin hcl
      have hbn : w.heap.size < wr.heap.size := by omega
      obtain ⟨W5, hW5⟩ : ∃ W5, W5 = wr.alloc (.cells zero9 33) := ⟨_, rfl⟩
      have hT5 : W5.heap[wr.heap.size]? = some (.cells zero9 33 (0, 0)) := by rw [hW5]; exact alloc_last _ _
      obtain ⟨W6, hW6⟩ : ∃ W6, W6 = W5.setRow wr.heap.size (nd.cells (.slice ta tm tc)).toArray := ⟨_, rfl⟩
      have hb6 : Below wr.heap.size wr W6 := by rw [hW6, hW5]; exact below_setRow ((Below.refl _ _).alloc (Nat.le_refl _) _) (Nat.le_refl _) _
      have HT6 : Hid (W6.heap[wr.heap.size]? = some (.cells (nd.cells (.slice ta tm tc)).toArray 33 (0, 0))) := Lib.hid (by rw [hW6]; exact setRow_selfR hT5 _)
      have hbw6 : Below w.heap.size w W6 := HBW.out.trans ((hbr.mono (by omega)).trans (hb6.mono (by omega)))
      have HRE := Lib.hid (HIH.out k hlt ta tm tc W6 (by rw [← hnd]; exact hin) hbw6)
      rw [← hnd] at HRE
      have HB6 : Hid (Below W.heap.size W W6) := Lib.hid (hbr.trans (hb6.mono hwz))
      have hz6 : wr.heap.size < W6.heap.size := lt_blkB HT6.out
      obtain ⟨va, vc, hv⟩ := own_shapeT hI.own
      subst hv
      have HO6 : Hid (W6.ownsRow W.heap.size 9 1 (.slice va (2 + k) vc) (2 + k) ((([[103, 114, 111, 117, 112], Lib.itoa n.gp]) ++ (l.take k).map Nd.txt).map strV)) := Lib.hid (own_same hI.own fun b hb cs hc => hb6.block b (lt_blkB hc))
      have HX := Lib.hid hX
      have HCL := Lib.hid hcl
      have HT5 := Lib.hid hT5
      have HW5 := Lib.hid hW5
      have HW6 := Lib.hid hW6
      have HTK : Hid ((l.take (k + 1)).map Nd.txt = (l.take k).map Nd.txt ++ [nd.txt]) := Lib.hid (by rw [hnd, List.take_succ_eq_append_getElem hlt, List.map_append]; rfl)
      obtain ⟨xs, hxs⟩ : ∃ xs, xs = (([[103, 114, 111, 117, 112], Lib.itoa n.gp]) ++ (l.take k).map Nd.txt).map strV := ⟨_, rfl⟩
      rw [← hxs] at HO6
      have HXS := Lib.hid hxs
      clear hal hI hbr hX hcl hcur hin hnd hxs hW5 hT5 hW6 hb6 hbw6 hgw
      unfold zero9 at HW5
      go_upto_region 23 with (first | (refine wpList_load_part rfl 33 _ rfl kg (k * 9) rfl _ cur (nd.cells (.slice ta tm tc)) (0, 0) _ HX.out HCL.out Tryz.underlying33 rfl re_size ?_) | (rw [← HW5.out]; refine wpList_store_re rfl _ _ rfl rfl wr.heap.size nd ta tm tc rfl rfl _ HT5.out rfl ?_; rw [← HW6.out]) | fail)
      go_wp2_with (first | (refine wpList_load_row rfl 33 _ rfl wr.heap.size rfl _ _ (0, 0) _ HT6.out Tryz.underlying33 rfl re_size ?_) | fail)
      refine HRE.out.mono ?_
      rintro x w7 ⟨rfl, hb7⟩
      obtain ⟨s, hs⟩ : ∃ s, s = (⟨nd.txt.toArray⟩ : ByteArray) := ⟨_, rfl⟩
      rw [← hs]
      obtain ⟨W8, hW8⟩ : ∃ W8, W8 = w7.alloc (.cells #[.string s] 9) := ⟨_, rfl⟩
      have hb8 : Below W6.heap.size W6 W8 := by rw [hW8]; exact hb7.alloc hb7.size _
      have hN8 : W8.heap[w7.heap.size]? = some (.cells #[.string s] 9 (0, 0)) := by rw [hW8]; exact alloc_last _ _
      have hz8 := lt_blkB hN8
      have hz7 := hb7.size
      have hO8 : W8.ownsRow W.heap.size 9 1 (.slice va (2 + k) vc) (2 + k) xs := own_same HO6.out fun b hb cs hc => hb8.block b (lt_blkB hc)
      have HB8 : Hid (Below W.heap.size W W8) := Lib.hid (HB6.out.trans (hb8.mono (by omega)))
      have HN8 := Lib.hid hN8
      have HO8 := Lib.hid hO8
      have HSV : Hid ([Value.string s] = [nd.txt].map strV) := Lib.hid (by rw [hs]; rfl)
      clear hb7 hb8 hN8 hO8 hs HO6 HB6 HRE HT6 HX HCL HT5
      subst hW8
      go_wp2_with (first | (at_builtin; refine wpList_append_own_at _ rfl (.tmp 49) (.tmp 52) 107 rfl W.heap.size 9 i1 (.string ⟨#[]⟩) 1 16 Tryz.underlying107 HKI.out HZ0.out HZ1.out HZ2.out rfl (by decide) (.slice va (2 + k) vc) (2 + k) xs rfl HO8.out ⟨w7.heap.size, 0, none⟩ 1 1 [.string s] rfl rfl ?hnews ?hone ?h63 ?hby ?hba ?_))
      case hnews => (intro j u hj; rw [addz]; rw [Lib.cell_of_heap HN8.out]; simpa using hj)
      case hone => (intro u hu; rw [List.mem_singleton.1 hu]; rfl)
      case h63 => (unfold maxLen; omega)
      case hby => omega
      case hba => omega
      intro v' w' ho' hg' _ _
      have hob := own_row HO8.out
      have hbf : Below W.heap.size W w' := by
        have h8 := HB8.out
        exact ⟨hg'.os.trans h8.os, hg'.tape.trans h8.tape, hg'.output.trans h8.output, Nat.le_trans h8.size hg'.size, fun i hi => (hg'.block i (by have := h8.size; omega) (fun e => by have := (hob i e.symm).1; omega)).trans (h8.block i hi)⟩
      have HBF := Lib.hid hbf
      have HOF := Lib.hid (show w'.ownsRow W.heap.size 9 1 v' (2 + (k + 1)) ((([[103, 114, 111, 117, 112], Lib.itoa n.gp]) ++ (l.take (k + 1)).map Nd.txt).map strV) from by
        rw [HTK.out, ← List.append_assoc, List.map_append, ← HSV.out, ← HXS.out, ← Nat.add_assoc]
        exact ho')
      clear hob hbf ho' hg' HO8 HB8 HN8
      go_wp2_with fail
      go_roundg (l.length - (k + 1))
      case measure => omega
      case rel => exact ⟨k + 1, rfl, by omega, by simp, ⟨HBF.out, HOF.out⟩⟩
    · obtain rfl : k = l.length := by omega
      have hnl : ¬ (l.length : Int) < (l.length : Int) := by omega
      obtain ⟨va, vc, hv⟩ := own_shapeT hI.own
      subst hv
      have hwd : (([[103, 114, 111, 117, 112], Lib.itoa n.gp]) ++ (l.take l.length).map Nd.txt) = ([[103, 114, 111, 117, 112], Lib.itoa n.gp]) ++ l.map Nd.txt := by rw [List.take_length]
      have hown := hI.own
      rw [hwd] at hown
      have hwl : (([[103, 114, 111, 117, 112], Lib.itoa n.gp]) ++ l.map Nd.txt).length = 2 + l.length := by simp only [List.length_append, List.length_map, List.length_cons, List.length_nil] <;> omega
      have hown2 : wr.ownsRow W.heap.size 9 1 (.slice va (2 + l.length) vc) (([[103, 114, 111, 117, 112], Lib.itoa n.gp]) ++ l.map Nd.txt).length ((([[103, 114, 111, 117, 112], Lib.itoa n.gp]) ++ l.map Nd.txt).map strV) := by rw [hwl]; exact hown
      have HJ := Lib.hid (join_own ⟨#[32]⟩ wr hown2 (by rw [hwl]; omega) HLN.out)
      have hjs : (⟨(Lib.join (([[103, 114, 111, 117, 112], Lib.itoa n.gp]) ++ l.map Nd.txt) [32]).toArray⟩ : ByteArray).size ≤ 140737488355328 := HLN.out
      have HTS : Hid ((⟨#[40]⟩ : ByteArray) ++ ⟨(Lib.join (([[103, 114, 111, 117, 112], Lib.itoa n.gp]) ++ l.map Nd.txt) [32]).toArray⟩ ++ ⟨#[41]⟩ = ⟨n.txt.toArray⟩) := Lib.hid (by rw [HTX.out]; apply ByteArray.ext; simp [parT])
      have HBR := Lib.hid hbr
      change Hid (Calls _ _ _ _ fun e w' => e = .returned (.string ⟨(Lib.join (([[103, 114, 111, 117, 112], Lib.itoa n.gp]) ++ l.map Nd.txt) [32]).toArray⟩) ∧ _) at HJ
      generalize (⟨(Lib.join (([[103, 114, 111, 117, 112], Lib.itoa n.gp]) ++ l.map Nd.txt) [32]).toArray⟩ : ByteArray) = J at *
      clear hal hI hbr hown hown2 hwd hwl hlt hk
      go_wp2_with fail
      refine HJ.out.mono ?_
      rintro x w9 ⟨rfl, hb9⟩
      have HBF : Hid (Below w.heap.size w w9) := Lib.hid (HBW.out.trans ((HBR.out.mono (by omega)).trans (hb9.mono (by omega))))
      clear hb9
      go_wp2
      go_ret
      exact ⟨congrArg (fun b => Ending.returned (Value.string b)) HTS.out, HBF.out⟩
/-- The state within the region of a rep. -/
structure RpT (W : World) (cs : Array Value) (L6 L7 : Bool) (u6 u7 : Value) (X : World) : Prop where
  bel : Below W.heap.size W X
  lit : L6 = true → ∃ b, u6 = .slice (some ⟨b, 0, none⟩) 3 3 ∧ W.heap.size ≤ b ∧ X.heap[b]? = some (.cells cs 9 (0, 0))
  mv : L7 = true → L6 = true ∧ u7 = u6
set_option maxRecDepth 100000 in
set_option maxHeartbeats 8000000 in
theorem text_rep (n : Nd) (l : List Nd) (a : Option Addr) (m c : Nat) (S : Nat → Prop) (w : World) (hk : n.kd = 6) (hl : n.kids = fo l) (hin : n.In w S (.slice a m c)) (hP : TPr w) (hf1 : -9223372036854775808 ≤ n.mn ∧ n.mn ≤ 9223372036854775807) (hf2 : -9223372036854775808 ≤ n.mx ∧ n.mx ≤ 9223372036854775807) (_hf3 : -9223372036854775808 ≤ n.gp ∧ n.gp ≤ 9223372036854775807) (hnl : l.length ≤ 1000000) (hjl : (Lib.join (([[114, 101, 112], Lib.itoa n.mn, maxT n.mx]) ++ l.map Nd.txt) [32]).length ≤ 140737488355328)
    (ih : ∀ k (h : k < l.length) a' m' c' W, (l[k]).In w S (.slice a' m' c') → Below w.heap.size w W → Calls Tryz.prog 43 #[(l[k]).v (.slice a' m' c')] W (TxP (l[k]) W)) :
    Calls Tryz.prog 43 #[n.v (.slice a m c)] w (TxP n w) := by
  obtain ⟨W, hW⟩ : ∃ W, W = w.alloc (.cells (n.cells (.slice a m c)).toArray 33) := ⟨_, rfl⟩
  have hbx : W.heap[w.heap.size]? = some (.cells (n.cells (.slice a m c)).toArray 33 (0, 0)) := by rw [hW]; exact alloc_last w _
  have hb : Below w.heap.size w W := by rw [hW]; exact (Below.refl _ _).alloc (Nat.le_refl _) _
  have HNZ : Hid (W.heap.size = w.heap.size + 1) := Lib.hid (by rw [hW]; simp)
  have c0 : W.cell? ⟨w.heap.size, 0, none⟩ = some (.int .i64 6) := (Lib.cell_of_heap hbx 0).trans (by rw [← hk]; rfl)
  have HTX : Hid (n.txt = parT (([[114, 101, 112], Lib.itoa n.mn, maxT n.mx]) ++ l.map Nd.txt)) := Lib.hid (by unfold Nd.txt nodeT headT; rw [hk, hl, txt_fo]; rfl)
  have hlen : m = l.length := by
    obtain ⟨ks, h1, _⟩ := hin
    obtain ⟨_, cap, e⟩ := h1.shape
    simp only [Value.slice.injEq] at e
    rw [e.2.1, hl, fo_len]
  subst hlen
  have HKD : Hid (∀ k (h : k < l.length), ∃ kg kcap cur kv, Value.slice a l.length c = .slice (some ⟨kg, 0, none⟩) l.length kcap ∧ kg < w.heap.size ∧ w.heap[kg]? = some (.cells cur 33 (0, 0)) ∧ (l[k]).In w S kv ∧ (∀ i u, ((l[k]).cells kv)[i]? = some u → cur[k * 9 + i]? = some u)) := Lib.hid (fun k h => by
    obtain ⟨ks, ⟨hown, _⟩, hlay⟩ := hin
    rw [hl] at hlay
    obtain ⟨kv, hki, hkc⟩ := lay_at hlay (List.getElem?_eq_getElem h)
    obtain ⟨_, ⟨hn0, hz⟩ | ⟨g, cap, cur, hv, _, hg, hnc, _, hcs, htk⟩⟩ := hown
    · rw [hl, fo_len] at hz
      omega
    · refine ⟨g, cap, cur, kv, ?_, lt_blkB hg, hg, hki, fun i u hu => ?_⟩
      · simp only [Value.slice.injEq] at hv ⊢
        exact ⟨hv.1, trivial, hv.2.2⟩
      · have hi9 : i < 9 := (List.getElem?_eq_some_iff.1 hu).1
        have h1 := (hkc i hi9).trans hu
        rw [← htk, List.getElem?_take] at h1
        split at h1
        · simpa using h1
        · cases h1)
  have HIH := Lib.hid ih
  have HLN : Hid ((Lib.join (([[114, 101, 112], Lib.itoa n.mn, maxT n.mx]) ++ l.map Nd.txt) (ByteArray.data ⟨#[32]⟩).toList).length ≤ 140737488355328) := Lib.hid hjl
  have HBX := Lib.hid hbx
  have HBW := Lib.hid hb
  have HWE := Lib.hid hW
  have HNV : Hid (n.v (.slice a l.length c) = .agg (n.cells (.slice a l.length c)).toArray) := Lib.hid rfl
  rw [HNV.out]
  have hsi : Hid (∀ X, Below W.heap.size W X → Calls Tryz.prog 46 #[.int .i64 n.mn] X fun e w' => e = .returned (.string ⟨(Lib.itoa n.mn).toArray⟩) ∧ Below X.heap.size X w') := Lib.hid (fun X hX => itoa_any n.mn X hf1.1 hf1.2 ((hP.below hb).below hX))
  have hsm : Hid (∀ X, Below W.heap.size W X → Calls Tryz.prog 69 #[.int .i64 n.mx] X fun e w' => e = .returned (.string ⟨(maxT n.mx).toArray⟩) ∧ Below X.heap.size X w') := Lib.hid (fun X hX => bound_any n.mx X hf2.1 hf2.2 ((hP.below hb).below hX))
  have HC5 : Hid ((n.cells (.slice a l.length c)).toArray[5]? = some (.int .i64 n.mn)) := Lib.hid rfl
  have HC6 : Hid ((n.cells (.slice a l.length c)).toArray[6]? = some (.int .i64 n.mx)) := Lib.hid rfl
  have HC8 : Hid ((n.cells (.slice a l.length c)).toArray[8]? = some (.slice a l.length c)) := Lib.hid rfl
  clear hb hW hk hl hin hP hf1 hf2 _hf3 hjl ih
  unfold TxP
  generalize (n.cells (.slice a l.length c)).toArray = cs at *
  clear hbx
  obtain ⟨si, hsi'⟩ : ∃ si, si = (⟨(Lib.itoa n.mn).toArray⟩ : ByteArray) := ⟨_, rfl⟩
  obtain ⟨sm, hsm'⟩ : ∃ sm, sm = (⟨(maxT n.mx).toArray⟩ : ByteArray) := ⟨_, rfl⟩
  rw [← hsi'] at hsi
  rw [← hsm'] at hsm
  have HSI := Lib.hid hsi'
  have HSM := Lib.hid hsm'
  clear hsi' hsm'
  go_enter Tryz.func43, Tryz.ntmps43
  go_upto_region 1 with fail
  rw [← HWE.out]
  go_upto_region 17 with fail
  clear c0
  refine Reg.wp_region_sto (fun L u X => RpT W #[.string ⟨#[114, 101, 112]⟩, .string si, .string sm] (L 6) (L 7) (u 6) (u 7) X) (fun j => ([some (.pointer (some ⟨w.heap.size, 5, none⟩)), some (.int .i64 n.mn), some (.string si), some (.pointer (some ⟨w.heap.size, 6, none⟩)), some (.int .i64 n.mx), some (.string sm), none, none] : List (Option Value)).getD j none) (by kernel_rfl) (by kernel_rfl) (by kernel_rfl) (by kernel_rfl) ?rs0 ?rsE ?rsZ
  case rs0 => exact ⟨(Below.refl _ _).drew, fun h => (by cases h), fun h => (by cases h)⟩
  case rsE =>
    refine Reg.EachG.plain rfl (fun L u T X hL hz hS hk K hK => ?_) ?_
    · skip
      have g1 : T[1]? = some (.pointer (some ⟨w.heap.size, 0, none⟩)) := hk.old 1 (by kernel_rfl) rfl
      have hK := hK _ X ⟨hS.bel, hS.lit, hS.mv⟩ (fun _ hx => Option.some.inj hx)
      clear hk hz hL hS
      go_simp
      exact hK
    refine Reg.EachG.plain rfl (fun L u T X hL hz hS hk K hK => ?_) ?_
    · skip
      have g29 : T[29]? = some (.pointer (some ⟨w.heap.size, 5, none⟩)) := hk.val 0 29 (by kernel_rfl) (by kernel_rfl) rfl
      have cb := (Lib.cell_of_heap (blk_below HBX.out hS.bel) 5).trans HC5.out
      have hK := hK _ X ⟨hS.bel, hS.lit, hS.mv⟩ (fun _ hx => Option.some.inj hx)
      clear hk hz hL hS
      go_simp
      exact hK
    refine Reg.EachG.plain rfl (fun L u T X hL hz hS hk K hK => ?_) ?_
    · skip
      have g30 : T[30]? = some (.int .i64 n.mn) := hk.val 1 30 (by kernel_rfl) (by kernel_rfl) rfl
      have d6 : L 6 = false := hz 6 (by kernel_rfl)
      clear hk hz
      go_simp
      refine (hsi.out X hS.bel).mono ?_
      rintro x w1 ⟨rfl, hb1⟩
      exact hK _ w1 ⟨below_thn hS.bel (Nat.le_refl _) hb1, fun h => (by rw [Reg.upd_ne _ _ (by decide), d6] at h; cases h), hS.mv⟩ (fun _ hx => Option.some.inj hx)
    refine Reg.EachG.plain rfl (fun L u T X hL hz hS hk K hK => ?_) ?_
    · skip
      have g1 : T[1]? = some (.pointer (some ⟨w.heap.size, 0, none⟩)) := hk.old 1 (by kernel_rfl) rfl
      have hK := hK _ X ⟨hS.bel, hS.lit, hS.mv⟩ (fun _ hx => Option.some.inj hx)
      clear hk hz hL hS
      go_simp
      exact hK
    refine Reg.EachG.plain rfl (fun L u T X hL hz hS hk K hK => ?_) ?_
    · skip
      have g32 : T[32]? = some (.pointer (some ⟨w.heap.size, 6, none⟩)) := hk.val 3 32 (by kernel_rfl) (by kernel_rfl) rfl
      have cb := (Lib.cell_of_heap (blk_below HBX.out hS.bel) 6).trans HC6.out
      have hK := hK _ X ⟨hS.bel, hS.lit, hS.mv⟩ (fun _ hx => Option.some.inj hx)
      clear hk hz hL hS
      go_simp
      exact hK
    refine Reg.EachG.plain rfl (fun L u T X hL hz hS hk K hK => ?_) ?_
    · skip
      have g33 : T[33]? = some (.int .i64 n.mx) := hk.val 4 33 (by kernel_rfl) (by kernel_rfl) rfl
      have d6 : L 6 = false := hz 6 (by kernel_rfl)
      clear hk hz
      go_simp
      refine (hsm.out X hS.bel).mono ?_
      rintro x w1 ⟨rfl, hb1⟩
      exact hK _ w1 ⟨below_thn hS.bel (Nat.le_refl _) hb1, fun h => (by rw [Reg.upd_ne _ _ (by decide), d6] at h; cases h), hS.mv⟩ (fun _ hx => Option.some.inj hx)
    refine Reg.EachG.plain rfl (fun L u T X hL hz hS hk K hK => ?_) ?_
    · skip
      have g31 : T[31]? = some (.string si) := hk.val 2 31 (by kernel_rfl) (by kernel_rfl) rfl
      have g34 : T[34]? = some (.string sm) := hk.val 5 34 (by kernel_rfl) (by kernel_rfl) rfl
      have d7 : L 7 = false := hz 7 (by kernel_rfl)
      have hK := hK (.slice (some ⟨X.heap.size, 0, none⟩) 3 3) (X.alloc (.cells #[.string ⟨#[114, 101, 112]⟩, .string si, .string sm] 9)) ⟨hS.bel.alloc hS.bel.size _, fun _ => ⟨X.heap.size, by rw [Reg.upd_same], hS.bel.size, alloc_last X _⟩, fun h => (by rw [Reg.upd_ne _ _ (by decide), d7] at h; cases h)⟩ (fun _ hx => by cases hx)
      clear hk hz hL hS d7
      go_simp
      exact hK
    refine Reg.EachG.plain rfl (fun L u T X hL hz hS hk K hK => ?_) ?_
    · skip
      obtain ⟨g35, l35⟩ := hk.any 6 35 (by kernel_rfl) (by kernel_rfl)
      have hK := hK (u 6) X ⟨hS.bel, fun _ => (by rw [Reg.upd_ne _ _ (by decide)]; exact hS.lit l35), fun _ => ⟨by rw [Reg.upd_ne _ _ (by decide)]; exact l35, by rw [Reg.upd_same, Reg.upd_ne _ _ (by decide)]⟩⟩ (fun _ hx => by cases hx)
      clear hk hz hL hS
      go_simp
      exact hK
    exact Reg.EachG.nil
  case rsZ =>
    intro L u w9 hL hS hI
    have e0 : u 0 = .pointer (some ⟨w.heap.size, 5, none⟩) := hI 0 (by decide) _ rfl
    have e1 : u 1 = .int .i64 n.mn := hI 1 (by decide) _ rfl
    have e2 : u 2 = .string si := hI 2 (by decide) _ rfl
    have e3 : u 3 = .pointer (some ⟨w.heap.size, 6, none⟩) := hI 3 (by decide) _ rfl
    have e4 : u 4 = .int .i64 n.mx := hI 4 (by decide) _ rfl
    have e5 : u 5 = .string sm := hI 5 (by decide) _ rfl
    clear hI
    simp only [Reg.putAll, Act.put, List.setIfInBounds_toArray, List.set_cons_succ, List.set_cons_zero, Nat.zero_add, Nat.reduceAdd, e0, e1, e2, e3, e4, e5]
    clear e0 e1 e2 e3 e4 e5
    have d6 := hL 6 (by decide)
    obtain ⟨b, e6, hbW, hN1⟩ := hS.lit d6
    have e7 := (hS.mv (hL 7 (by decide))).2
    rw [e6] at e7
    rw [e6, e7]
    have HO1 : Hid (w9.ownsRow W.heap.size 9 1 (.slice (some ⟨b, 0, none⟩) 3 3) 3 (([[114, 101, 112], Lib.itoa n.mn, maxT n.mx]).map strV)) := Lib.hid (by have := str_row (vs := [.string ⟨#[114, 101, 112]⟩, .string si, .string sm]) hN1 W.heap.size hbW (by simp); rw [HSI.out, HSM.out] at this; exact this)
    have HB1 := Lib.hid hS.bel
    have c8 : w9.cell? ⟨w.heap.size, 8, none⟩ = some (.slice a l.length c) := (Lib.cell_of_heap (blk_below HBX.out hS.bel) 8).trans HC8.out
    clear hS d6 e6 e7 hL hN1 u L
    go_upto_region 20 with fail
    obtain ⟨i1, ki, kz0, kz1, kz2⟩ := info_parts string_row
    have HKI := Lib.hid ki
    have HZ0 := Lib.hid kz0
    have HZ1 := Lib.hid kz1
    have HZ2 := Lib.hid kz2
    clear ki kz0 kz1 kz2
    go_upto_region 21 with fail
    clear c8
    go_loopg [3, 45] (l.length) (fun g v i wr => ∃ k : Nat, g = l.length - k ∧ k ≤ l.length ∧ i = .int .i64 k ∧ Aside (TxL W 3 ([[114, 101, 112], Lib.itoa n.mn, maxT n.mx]) l k v wr))
    case atStart => exact ⟨0, by omega, Nat.zero_le _, rfl, ⟨HB1.out, by simpa using HO1.out⟩⟩
    case round =>
      obtain ⟨k, rfl, hk, rfl, hal⟩ := hrel
      have hI := hal.out
      have hbr := hI.bel
      have hnz : w.heap.size < W.heap.size := by have := HNZ.out; omega
      have hwz := hbr.size
      by_cases hlt : k < l.length
      · obtain ⟨kg, kcap, cur, kv, hka, hgw, hcur, hin, hcl⟩ := HKD.out k hlt
        obtain ⟨ta, tm, tc, rfl⟩ := hin.shape
        simp only [Value.slice.injEq] at hka
        obtain ⟨rfl, _, rfl⟩ := hka
        have hlti : (k : Int) < (l.length : Int) := by omega
        have hk0 : (0 : Int) ≤ (k : Int) := by omega
        have hX : wr.heap[kg]? = some (.cells cur 33 (0, 0)) := (hbr.block kg (by omega)).trans ((HBW.out.block kg hgw).trans hcur)
        have hgk := lt_blkB hX
        obtain ⟨nd, hnd⟩ : ∃ nd, nd = l[k] := ⟨_, rfl⟩
        rw [← hnd] at hin hcl
        have hbn : w.heap.size < wr.heap.size := by omega
        obtain ⟨W5, hW5⟩ : ∃ W5, W5 = wr.alloc (.cells zero9 33) := ⟨_, rfl⟩
        have hT5 : W5.heap[wr.heap.size]? = some (.cells zero9 33 (0, 0)) := by rw [hW5]; exact alloc_last _ _
        obtain ⟨W6, hW6⟩ : ∃ W6, W6 = W5.setRow wr.heap.size (nd.cells (.slice ta tm tc)).toArray := ⟨_, rfl⟩
        have hb6 : Below wr.heap.size wr W6 := by rw [hW6, hW5]; exact below_setRow ((Below.refl _ _).alloc (Nat.le_refl _) _) (Nat.le_refl _) _
        have HT6 : Hid (W6.heap[wr.heap.size]? = some (.cells (nd.cells (.slice ta tm tc)).toArray 33 (0, 0))) := Lib.hid (by rw [hW6]; exact setRow_selfR hT5 _)
        have hbw6 : Below w.heap.size w W6 := HBW.out.trans ((hbr.mono (by omega)).trans (hb6.mono (by omega)))
        have HRE := Lib.hid (HIH.out k hlt ta tm tc W6 (by rw [← hnd]; exact hin) hbw6)
        rw [← hnd] at HRE
        have HB6 : Hid (Below W.heap.size W W6) := Lib.hid (hbr.trans (hb6.mono hwz))
        have hz6 : wr.heap.size < W6.heap.size := lt_blkB HT6.out
        obtain ⟨va, vc, hv⟩ := own_shapeT hI.own
        subst hv
        have HO6 : Hid (W6.ownsRow W.heap.size 9 1 (.slice va (3 + k) vc) (3 + k) ((([[114, 101, 112], Lib.itoa n.mn, maxT n.mx]) ++ (l.take k).map Nd.txt).map strV)) := Lib.hid (own_same hI.own fun b hb cs hc => hb6.block b (lt_blkB hc))
        have HX := Lib.hid hX
        have HCL := Lib.hid hcl
        have HT5 := Lib.hid hT5
        have HW5 := Lib.hid hW5
        have HW6 := Lib.hid hW6
        have HTK : Hid ((l.take (k + 1)).map Nd.txt = (l.take k).map Nd.txt ++ [nd.txt]) := Lib.hid (by rw [hnd, List.take_succ_eq_append_getElem hlt, List.map_append]; rfl)
        obtain ⟨xs, hxs⟩ : ∃ xs, xs = (([[114, 101, 112], Lib.itoa n.mn, maxT n.mx]) ++ (l.take k).map Nd.txt).map strV := ⟨_, rfl⟩
        rw [← hxs] at HO6
        have HXS := Lib.hid hxs
        clear hal hI hbr hX hcl hcur hin hnd hxs hW5 hT5 hW6 hb6 hbw6 hgw
        unfold zero9 at HW5
        go_upto_region 23 with (first | (refine wpList_load_part rfl 33 _ rfl kg (k * 9) rfl _ cur (nd.cells (.slice ta tm tc)) (0, 0) _ HX.out HCL.out Tryz.underlying33 rfl re_size ?_) | (rw [← HW5.out]; refine wpList_store_re rfl _ _ rfl rfl wr.heap.size nd ta tm tc rfl rfl _ HT5.out rfl ?_; rw [← HW6.out]) | fail)
        go_wp2_with (first | (refine wpList_load_row rfl 33 _ rfl wr.heap.size rfl _ _ (0, 0) _ HT6.out Tryz.underlying33 rfl re_size ?_) | fail)
        refine HRE.out.mono ?_
        rintro x w7 ⟨rfl, hb7⟩
        obtain ⟨s, hs⟩ : ∃ s, s = (⟨nd.txt.toArray⟩ : ByteArray) := ⟨_, rfl⟩
        rw [← hs]
        obtain ⟨W8, hW8⟩ : ∃ W8, W8 = w7.alloc (.cells #[.string s] 9) := ⟨_, rfl⟩
        have hb8 : Below W6.heap.size W6 W8 := by rw [hW8]; exact hb7.alloc hb7.size _
        have hN8 : W8.heap[w7.heap.size]? = some (.cells #[.string s] 9 (0, 0)) := by rw [hW8]; exact alloc_last _ _
        have hz8 := lt_blkB hN8
        have hz7 := hb7.size
        have hO8 : W8.ownsRow W.heap.size 9 1 (.slice va (3 + k) vc) (3 + k) xs := own_same HO6.out fun b hb cs hc => hb8.block b (lt_blkB hc)
        have HB8 : Hid (Below W.heap.size W W8) := Lib.hid (HB6.out.trans (hb8.mono (by omega)))
        have HN8 := Lib.hid hN8
        have HO8 := Lib.hid hO8
        have HSV : Hid ([Value.string s] = [nd.txt].map strV) := Lib.hid (by rw [hs]; rfl)
        clear hb7 hb8 hN8 hO8 hs HO6 HB6 HRE HT6 HX HCL HT5
        subst hW8
        go_wp2_with (first | (at_builtin; refine wpList_append_own_at _ rfl (.tmp 49) (.tmp 52) 107 rfl W.heap.size 9 i1 (.string ⟨#[]⟩) 1 16 Tryz.underlying107 HKI.out HZ0.out HZ1.out HZ2.out rfl (by decide) (.slice va (3 + k) vc) (3 + k) xs rfl HO8.out ⟨w7.heap.size, 0, none⟩ 1 1 [.string s] rfl rfl ?hnews ?hone ?h63 ?hby ?hba ?_))
        case hnews => (intro j u hj; rw [addz]; rw [Lib.cell_of_heap HN8.out]; simpa using hj)
        case hone => (intro u hu; rw [List.mem_singleton.1 hu]; rfl)
        case h63 => (unfold maxLen; omega)
        case hby => omega
        case hba => omega
        intro v' w' ho' hg' _ _
        have hob := own_row HO8.out
        have hbf : Below W.heap.size W w' := by
          have h8 := HB8.out
          exact ⟨hg'.os.trans h8.os, hg'.tape.trans h8.tape, hg'.output.trans h8.output, Nat.le_trans h8.size hg'.size, fun i hi => (hg'.block i (by have := h8.size; omega) (fun e => by have := (hob i e.symm).1; omega)).trans (h8.block i hi)⟩
        have HBF := Lib.hid hbf
        have HOF := Lib.hid (show w'.ownsRow W.heap.size 9 1 v' (3 + (k + 1)) ((([[114, 101, 112], Lib.itoa n.mn, maxT n.mx]) ++ (l.take (k + 1)).map Nd.txt).map strV) from by
          rw [HTK.out, ← List.append_assoc, List.map_append, ← HSV.out, ← HXS.out, ← Nat.add_assoc]
          exact ho')
        clear hob hbf ho' hg' HO8 HB8 HN8
        go_wp2_with fail
        go_roundg (l.length - (k + 1))
        case measure => omega
        case rel => exact ⟨k + 1, rfl, by omega, by simp, ⟨HBF.out, HOF.out⟩⟩
      · obtain rfl : k = l.length := by omega
        have hnl : ¬ (l.length : Int) < (l.length : Int) := by omega
        obtain ⟨va, vc, hv⟩ := own_shapeT hI.own
        subst hv
        have hwd : (([[114, 101, 112], Lib.itoa n.mn, maxT n.mx]) ++ (l.take l.length).map Nd.txt) = ([[114, 101, 112], Lib.itoa n.mn, maxT n.mx]) ++ l.map Nd.txt := by rw [List.take_length]
        have hown := hI.own
        rw [hwd] at hown
        have hwl : (([[114, 101, 112], Lib.itoa n.mn, maxT n.mx]) ++ l.map Nd.txt).length = 3 + l.length := by simp only [List.length_append, List.length_map, List.length_cons, List.length_nil] <;> omega
        have hown2 : wr.ownsRow W.heap.size 9 1 (.slice va (3 + l.length) vc) (([[114, 101, 112], Lib.itoa n.mn, maxT n.mx]) ++ l.map Nd.txt).length ((([[114, 101, 112], Lib.itoa n.mn, maxT n.mx]) ++ l.map Nd.txt).map strV) := by rw [hwl]; exact hown
        have HJ := Lib.hid (join_own ⟨#[32]⟩ wr hown2 (by rw [hwl]; omega) HLN.out)
        have hjs : (⟨(Lib.join (([[114, 101, 112], Lib.itoa n.mn, maxT n.mx]) ++ l.map Nd.txt) [32]).toArray⟩ : ByteArray).size ≤ 140737488355328 := HLN.out
        have HTS : Hid ((⟨#[40]⟩ : ByteArray) ++ ⟨(Lib.join (([[114, 101, 112], Lib.itoa n.mn, maxT n.mx]) ++ l.map Nd.txt) [32]).toArray⟩ ++ ⟨#[41]⟩ = ⟨n.txt.toArray⟩) := Lib.hid (by rw [HTX.out]; apply ByteArray.ext; simp [parT])
        have HBR := Lib.hid hbr
        change Hid (Calls _ _ _ _ fun e w' => e = .returned (.string ⟨(Lib.join (([[114, 101, 112], Lib.itoa n.mn, maxT n.mx]) ++ l.map Nd.txt) [32]).toArray⟩) ∧ _) at HJ
        generalize (⟨(Lib.join (([[114, 101, 112], Lib.itoa n.mn, maxT n.mx]) ++ l.map Nd.txt) [32]).toArray⟩ : ByteArray) = J at *
        clear hal hI hbr hown hown2 hwd hwl hlt hk
        go_wp2_with fail
        refine HJ.out.mono ?_
        rintro x wz ⟨rfl, hb9⟩
        have HBF : Hid (Below w.heap.size w wz) := Lib.hid (HBW.out.trans ((HBR.out.mono (by omega)).trans (hb9.mono (by omega))))
        clear hb9
        go_wp2
        go_ret
        exact ⟨congrArg (fun b => Ending.returned (Value.string b)) HTS.out, HBF.out⟩
end Go.Proofs.YtoodpajbefffhaaGreatDoor
/- The text of any tree; what an expression that was read tells. -/
namespace Go.Proofs.YtoodpajbefffhaaGreatDoor
open Go.RowKit

def Nd.Fit (n : Nd) : Prop := ((-9223372036854775808 ≤ n.mn ∧ n.mn ≤ 9223372036854775807) ∧ (-9223372036854775808 ≤ n.mx ∧ n.mx ≤ 9223372036854775807) ∧ (-9223372036854775808 ≤ n.gp ∧ n.gp ≤ 9223372036854775807)) ∧ n.kids.Fit
theorem fit_at : ∀ (l : List Nd), (fo l).Fit → ∀ k (h : k < l.length), (l[k]).Fit
  | [], _, k, h => by simp at h
  | _ :: r, hf, 0, _ => ⟨hf.1, hf.2.1⟩
  | _ :: r, hf, k + 1, h => fit_at r hf.2.2 k (by simpa using h)
theorem sz_at : ∀ (l : List Nd) k (h : k < l.length), (l[k]).sz ≤ szL l
  | [], k, h => by simp at h
  | n :: r, 0, _ => by
    show n.sz ≤ 1 + n.kids.sz + (fo r).sz
    unfold Nd.sz
    omega
  | n :: r, k + 1, h => by
    have hr : k < r.length := by simpa using h
    have := sz_at r k hr
    show (r[k]'hr).sz ≤ 1 + n.kids.sz + (fo r).sz
    unfold szL at this
    omega
theorem join_fits {kd mn mx gp : Int} {h : List (List UInt8)} (l : List Nd) (he : headT kd mn mx gp = some h) (h1 : -9223372036854775808 ≤ mn ∧ mn ≤ 9223372036854775807) (h2 : -9223372036854775808 ≤ mx ∧ mx ≤ 9223372036854775807) (h3 : -9223372036854775808 ≤ gp ∧ gp ≤ 9223372036854775807) (hf : (fo l).Fit) (hs : szL l ≤ 1000000) : (Lib.join (h ++ l.map Nd.txt) [32]).length ≤ 140737488355328 := by
  have a := headT_len he h1 h2 h3
  have b := txt_lens (fo l) hf
  rw [txt_fo, fo_len] at b
  have c := join_len (h ++ l.map Nd.txt)
  rw [lens_app, List.length_append, List.length_map] at c
  unfold szL at hs
  have := b.1
  omega
/-- The text of any tree that lies in memory. -/
theorem rtext_any (S : Nat → Prop) : ∀ (N : Nat) (n : Nd) (kv : Value) (w : World), n.sz ≤ N → n.sz ≤ 1000000 → n.Fit → n.In w S kv → TZ w → DB w → TPr w → Calls Tryz.prog 43 #[n.v kv] w (TxP n w) := by
  intro N
  induction N with
  | zero => intro n kv w h; unfold Nd.sz at h; omega
  | succ N IH =>
    intro n kv w h hM hF hin hT hD hP
    obtain ⟨a, m, c, rfl⟩ := hin.shape
    obtain ⟨⟨h1, h2, h3⟩, hfk⟩ := hF
    obtain ⟨l, hl⟩ : ∃ l, n.kids = fo l := ⟨n.kids.toL, (fo_toL _).symm⟩
    rw [hl] at hfk
    have hs : 1 + szL l ≤ N + 1 := by unfold Nd.sz at h; rw [hl] at h; exact h
    have hs2 : 1 + szL l ≤ 1000000 := by unfold Nd.sz at hM; rw [hl] at hM; exact hM
    have hll : l.length ≤ szL l := by have := fo_sz_len (fo l); rw [fo_len] at this; exact this
    have ih : ∀ k (h : k < l.length) a' m' c' W, (l[k]).In w S (.slice a' m' c') → Below w.heap.size w W → Calls Tryz.prog 43 #[(l[k]).v (.slice a' m' c')] W (TxP (l[k]) W) := fun k hk a' m' c' W hi hb =>
      IH _ _ W (by have := sz_at l k hk; omega) (by have := sz_at l k hk; omega) (fit_at l hfk k hk) (hi.below hb) (hT.below hb) (hD.below hb) (hP.below hb)
    by_cases k1 : n.kd = 1
    · exact text_set n a m c w k1 hT hD
    by_cases k2 : n.kd = 2
    · exact text_beg n a m c w k2
    by_cases k3 : n.kd = 3
    · exact text_fin n a m c w k3
    by_cases k4 : n.kd = 4
    · exact text_cat n l a m c S w k4 hl hin hP h1 h2 h3 (by omega) (join_fits (kd := 4) l rfl h1 h2 h3 hfk (by omega)) ih
    by_cases k5 : n.kd = 5
    · exact text_alt n l a m c S w k5 hl hin hP h1 h2 h3 (by omega) (join_fits (kd := 5) l rfl h1 h2 h3 hfk (by omega)) ih
    by_cases k6 : n.kd = 6
    · exact text_rep n l a m c S w k6 hl hin hP h1 h2 h3 (by omega) (join_fits (kd := 6) l rfl h1 h2 h3 hfk (by omega)) ih
    by_cases k7 : n.kd = 7
    · exact text_grp n l a m c S w k7 hl hin hP h1 h2 h3 (by omega) (join_fits (kd := 7) l rfl h1 h2 h3 hfk (by omega)) ih
    · exact rtext_none n a m c w (by omega)
/-- An expression that was read lies in memory. -/
def ReAt (w : World) (p : Nat) (t : Nd) (kv : Value) (g : Nat) (ext : Bool) : Prop := w.heap[p]? = some (.cells (reA t kv g ext) 67 (0, 0))
set_option maxHeartbeats 4000000 in
theorem Text_nil (w : World) : Calls Tryz.prog 15 #[.pointer none] w fun x w' => x = .returned (.string ⟨#[]⟩) ∧ w' = w := by
  go_enter Tryz.func15, Tryz.ntmps15
  go_wp2
  go_ret
  exact ⟨rfl, rfl⟩
set_option maxHeartbeats 4000000 in
theorem Groups_nil (w : World) : Calls Tryz.prog 17 #[.pointer none] w fun x w' => x = .returned (.int .i64 0) ∧ w' = w := by
  go_enter Tryz.func17, Tryz.ntmps17
  go_wp2
  go_ret
  exact ⟨rfl, rfl⟩
set_option maxHeartbeats 4000000 in
theorem Ext_nil (w : World) : Calls Tryz.prog 18 #[.pointer none] w fun x w' => x = .returned (.bool false) ∧ w' = w := by
  go_enter Tryz.func18, Tryz.ntmps18
  go_wp2
  go_ret
  exact ⟨rfl, rfl⟩
set_option maxHeartbeats 4000000 in
theorem Text_at (S : Nat → Prop) (w : World) (p : Nat) (t : Nd) (kv : Value) (g : Nat) (ext : Bool) (h : ReAt w p t kv g ext) (hM : t.sz ≤ 1000000) (hF : t.Fit) (hin : t.In w S kv) (hT : TZ w) (hD : DB w) (hP : TPr w) :
    Calls Tryz.prog 15 #[.pointer (some ⟨p, 0, none⟩)] w (TxP t w) := by
  have HX := Lib.hid (rtext_any S t.sz t kv w (Nat.le_refl _) hM hF hin hT hD hP)
  have hpl := lt_blkB h
  have HH : Hid (w.heap[p]? = some (.cells (reA t kv g ext) 67 (0, 0))) := Lib.hid h
  have HC : Hid (∀ i u, (t.cells kv)[i]? = some u → (reA t kv g ext)[0 + i]? = some u) := Lib.hid (fun i u hu => by
    unfold reA
    rw [Nat.zero_add, List.getElem?_toArray, List.getElem?_append_left (by rw [Nd.cells_len]; exact (List.getElem?_eq_some_iff.1 hu).1)]
    exact hu)
  have HNV : Hid (t.v kv = .agg (t.cells kv).toArray) := Lib.hid rfl
  clear h hM hF hin hT hD hP
  unfold TxP at *
  go_enter Tryz.func15, Tryz.ntmps15
  go_wp2_with (first | (refine wpList_load_part rfl 33 _ rfl p 0 rfl _ (reA t kv g ext) (t.cells kv) (0, 0) _ HH.out HC.out Tryz.underlying33 rfl re_size ?_) | fail)
  refine HX.out.mono ?_
  rintro x w1 ⟨rfl, hb⟩
  have HB := Lib.hid hb
  clear hb
  go_wp2
  go_ret
  exact ⟨rfl, HB.out⟩
end Go.Proofs.YtoodpajbefffhaaGreatDoor
/- awake; every law's expression. -/
namespace Go.Proofs.YtoodpajbefffhaaGreatDoor
open Go.RowKit

def awL : List Int := [40, 97, 124, 98, 41, 43]
def awT : Nd := repN 1 (-1) (grpN 1 (joinN 5 [setN (mem [97]), setN (mem [98])]))
theorem aw_parse (cf : ByteArray → (Nat → Bool) × Bool) : parseN cf awL true 30 = some (.ok awT 6 1) := by kernel_rfl
theorem aw_text : awT.txt = [40, 114, 101, 112, 32, 49, 32, 45, 32, 40, 103, 114, 111, 117, 112, 32, 49, 32, 40, 97, 108, 116, 32, 91, 54, 49, 93, 32, 91, 54, 50, 93, 41, 41, 41] := by kernel_rfl
theorem aw_fit : awT.Fit := by
  refine ⟨⟨⟨by decide, by decide⟩, ⟨by decide, by decide⟩, ⟨by decide, by decide⟩⟩, ⟨⟨⟨by decide, by decide⟩, ⟨by decide, by decide⟩, ⟨by decide, by decide⟩⟩, ⟨⟨⟨by decide, by decide⟩, ⟨by decide, by decide⟩, ⟨by decide, by decide⟩⟩, ?_, trivial⟩, trivial⟩⟩
  exact ⟨⟨⟨by decide, by decide⟩, ⟨by decide, by decide⟩, ⟨by decide, by decide⟩⟩, trivial, ⟨⟨by decide, by decide⟩, ⟨by decide, by decide⟩, ⟨by decide, by decide⟩⟩, trivial, trivial⟩
set_option maxRecDepth 100000 in
set_option maxHeartbeats 4000000 in
theorem awake8_any (cf : ByteArray → (Nat → Bool) × Bool) (hcf : ClassOk cf) (e : Nat → Addr) (w : World) (he : Es w w.heap.size e) (ht : Ety w) (hT : TZ w) (hD : DB w) (hP : TPr w) :
    Calls Tryz.prog 14 #[] w fun x w' => x = .returned (.bool true) ∧ Below w.heap.size w w' := by
  obtain ⟨W, hW⟩ : ∃ W, W = w.alloc (.cells #[.int .u8 40, .int .u8 97, .int .u8 124, .int .u8 98, .int .u8 41, .int .u8 43] 5 (6, 7)) := ⟨_, rfl⟩
  have hb : Below w.heap.size w W := by rw [hW]; exact (Below.refl _ _).alloc (Nat.le_refl _) _
  have hx : W.heap[w.heap.size]? = some (.cells #[.int .u8 40, .int .u8 97, .int .u8 124, .int .u8 98, .int .u8 41, .int .u8 43] 5 (6, 7)) := by rw [hW]; exact alloc_last w _
  have hz : W.heap.size = w.heap.size + 1 := by rw [hW]; simp
  have hs : Sl W (.slice (some ⟨w.heap.size, 0, none⟩) 6 6) awL := ⟨byt_ofR (by unfold awL; decide), by decide, Or.inr ⟨w.heap.size, 0, 6, rfl, by decide, by decide, fun i hi => by
    have h6 : i < 6 := hi
    rw [Lib.cell_of_heap hx, Nat.zero_add]
    match i, h6 with
    | 0, _ => rfl
    | 1, _ => rfl
    | 2, _ => rfl
    | 3, _ => rfl
    | 4, _ => rfl
    | 5, _ => rfl⟩⟩
  have he1 : Es W W.heap.size e := ⟨(he.below hb).var, by have := he.low; omega, Nat.le_refl _⟩
  have HPA := Lib.hid (parse_any cf hcf e _ awL true 30 (.ok awT 6 1) W he1 (ht.below hb) hs (fun x o n cap hv => by simp only [Value.slice.injEq, Option.some.injEq, Addr.mk.injEq] at hv; omega) (aw_parse cf))
  have HTX : Hid (∀ X p kv, Below w.heap.size w X → ReAt X p awT kv 1 true → awT.In X (fun b => W.heap.size ≤ b) kv → Calls Tryz.prog 15 #[.pointer (some ⟨p, 0, none⟩)] X fun x w' => x = .returned (.string ⟨#[40, 114, 101, 112, 32, 49, 32, 45, 32, 40, 103, 114, 111, 117, 112, 32, 49, 32, 40, 97, 108, 116, 32, 91, 54, 49, 93, 32, 91, 54, 50, 93, 41, 41, 41]⟩) ∧ Below X.heap.size X w') := Lib.hid (fun X p kv hX hr hi => by
    have := Text_at _ X p awT kv 1 true hr (by decide) aw_fit hi (hT.below hX) (hD.below hX) (hP.below hX)
    unfold TxP at this
    rw [aw_text] at this
    exact this)
  have HB := Lib.hid hb
  have kc := fun (w : World) (C : Array Value) (n c : Nat) => Lib.run_convert_bytes_const (P := Tryz.prog) w 22 5 C n c Tryz.underlying22 Tryz.underlying5
  clear he ht hT hD hP hb hx hs he1 hz
  subst hW
  go_enter Tryz.func14, Tryz.ntmps14
  go_wp2_with fail
  refine HPA.out.mono ?_
  rintro x w1 ⟨p, a, m, c, rfl, hp, hrow, hin, hb1⟩
  have hb2 : Below w.heap.size w w1 := below_thn HB.out (Nat.le_refl _) hb1
  have HT1 := Lib.hid (HTX.out w1 p _ hb2 hrow hin)
  have HB2 := Lib.hid hb2
  clear hp hrow hin hb1 hb2
  go_wp2_with fail
  refine HT1.out.mono ?_
  rintro x w2 ⟨rfl, hb3⟩
  have HB3 := Lib.hid (below_thn HB2.out (Nat.le_refl _) hb3)
  clear hb3
  go_wp2
  go_ret
  exact ⟨rfl, HB3.out⟩
end Go.Proofs.YtoodpajbefffhaaGreatDoor
/- RetextNil: its walk. -/
namespace Go.Proofs.YtoodpajbefffhaaGreatDoor
open Go.RowKit

set_option maxHeartbeats 4000000 in
theorem Tree_nil (w : World) : Calls Tryz.prog 19 #[.pointer none] w fun x w' => x = .returned (.agg zero9) ∧ Below w.heap.size w w' := by
  have HG : Hid ((w.alloc (.cells zero9 33)).heap[w.heap.size]? = some (.cells zero9 33 (0, 0))) := Lib.hid (alloc_last w _)
  have HB : Hid (Below w.heap.size w (w.alloc (.cells zero9 33))) := Lib.hid ((Below.refl _ _).alloc (Nat.le_refl _) _)
  unfold zero9 at HG HB
  rw [← zero9_v]
  go_enter Tryz.func19, Tryz.ntmps19
  go_wp2_with (first | (refine wpList_store_re rfl _ _ rfl rfl w.heap.size zeroN none 0 0 rfl zero9_v.symm _ HG.out rfl ?_) | fail)
  exact bodyPost_ret (results_re1 rfl _ _ w.heap.size zeroN nilS rfl (setRow_selfR HG.out _)) rfl ⟨rfl, below_setRow HB.out (Nat.le_refl _) _⟩
theorem same_cells {W : World} {b : Nat} (h : W.heap[b]? = some (.cells zero9 33 (0, 0))) : W.cell? ⟨b, 0, none⟩ = some (.int .i64 0) ∧ W.cell? ⟨b, 1, none⟩ = some (.int .u64 0) ∧ W.cell? ⟨b, 2, none⟩ = some (.int .u64 0) ∧ W.cell? ⟨b, 3, none⟩ = some (.int .u64 0) ∧ W.cell? ⟨b, 4, none⟩ = some (.int .u64 0) ∧ W.cell? ⟨b, 5, none⟩ = some (.int .i64 0) ∧ W.cell? ⟨b, 6, none⟩ = some (.int .i64 0) ∧ W.cell? ⟨b, 7, none⟩ = some (.int .i64 0) ∧ W.cell? ⟨b, 8, none⟩ = some (.slice none 0 0) :=
  ⟨(Lib.cell_of_heap h 0).trans rfl, (Lib.cell_of_heap h 1).trans rfl, (Lib.cell_of_heap h 2).trans rfl, (Lib.cell_of_heap h 3).trans rfl, (Lib.cell_of_heap h 4).trans rfl, (Lib.cell_of_heap h 5).trans rfl, (Lib.cell_of_heap h 6).trans rfl, (Lib.cell_of_heap h 7).trans rfl, (Lib.cell_of_heap h 8).trans rfl⟩
set_option maxRecDepth 100000 in
set_option maxHeartbeats 8000000 in
theorem same_zero (w : World) : Calls Tryz.prog 20 #[.agg zero9, .agg zero9] w fun x w' => x = .returned (.bool true) ∧ Below w.heap.size w w' := by
  obtain ⟨W, hW⟩ : ∃ W, W = (w.alloc (.cells zero9 33)).alloc (.cells zero9 33) := ⟨_, rfl⟩
  have h1 : W.heap[w.heap.size]? = some (.cells zero9 33 (0, 0)) := by rw [hW]; exact blk_alloc (alloc_last w _) _
  have h2 : W.heap[w.heap.size + 1]? = some (.cells zero9 33 (0, 0)) := by rw [hW]; have := alloc_last (w.alloc (.cells zero9 33)) (.cells zero9 33); simpa using this
  have HB : Hid (Below w.heap.size w W) := Lib.hid (by rw [hW]; exact ((Below.refl _ _).alloc (Nat.le_refl _) _).alloc (by simp) _)
  obtain ⟨a0, a1, a2, a3, a4, a5, a6, a7, a8⟩ := same_cells h1
  obtain ⟨b0, b1, b2, b3, b4, b5, b6, b7, b8⟩ := same_cells h2
  have heq : ∀ X : World, (Op.equalIn 10000 30 (.agg #[.int .u64 0, .int .u64 0, .int .u64 0, .int .u64 0]) (.agg #[.int .u64 0, .int .u64 0, .int .u64 0, .int .u64 0])).run Tryz.prog X = .ok true X := fun X => by
    rw [eq_arr 9998]
    rfl
  have HWE := Lib.hid hW
  clear h1 h2 hW
  unfold zero9 at *
  go_enter Tryz.func20, Tryz.ntmps20
  go_upto_region 1 with fail
  rw [← HWE.out]
  go_wp2_with fail
  go_loopg [51] 0 (fun g v wr => g = 0 ∧ v = .int .i64 0 ∧ W = wr)
  case atStart => exact ⟨rfl, rfl, rfl⟩
  case round =>
    obtain ⟨_, rfl, rfl⟩ := hrel
    go_wp2_with fail
    go_ret
    exact ⟨rfl, HB.out⟩
set_option maxRecDepth 100000 in
set_option maxHeartbeats 8000000 in
theorem rnil_any (cf : ByteArray → (Nat → Bool) × Bool) (hcf : ClassOk cf) (e : Nat → Addr) (w : World) (he : Es w w.heap.size e) (ht : Ety w) (hT : TZ w) (hD : DB w) (hP : TPr w) :
    Calls Tryz.prog 6 #[] w fun x w' => x = .returned (.bool true) ∧ Below w.heap.size w w' := by
  have HAH : Hid (∀ X, Below w.heap.size w X → Calls Tryz.prog 14 #[] X fun x w' => x = .returned (.bool true) ∧ Below X.heap.size X w') := Lib.hid (fun X hX => awake8_any cf hcf e X ⟨(he.below hX).var, Nat.lt_of_lt_of_le he.low hX.size, Nat.le_refl _⟩ (ht.below hX) (hT.below hX) (hD.below hX) (hP.below hX))
  have HTN : Hid (∀ X, Calls Tryz.prog 19 #[.pointer none] X fun x w' => x = .returned (.agg zero9) ∧ Below X.heap.size X w') := Lib.hid Tree_nil
  have HSN : Hid (∀ X, Calls Tryz.prog 20 #[.agg zero9, .agg zero9] X fun x w' => x = .returned (.bool true) ∧ Below X.heap.size X w') := Lib.hid same_zero
  unfold zero9 at *
  clear he ht hT hD hP hcf
  go_enter Tryz.func6, Tryz.ntmps6
  go_wp2_with fail
  refine (Text_nil _).mono ?_
  rintro x w1 ⟨rfl, rfl⟩
  go_wp2_with fail
  refine (Groups_nil _).mono ?_
  rintro x w2 ⟨rfl, rfl⟩
  go_wp2_with fail
  refine (Ext_nil _).mono ?_
  rintro x w3 ⟨rfl, rfl⟩
  go_wp2_with fail
  refine (HTN.out _).mono ?_
  rintro x w4 ⟨rfl, hb4⟩
  have HB4 := Lib.hid hb4
  clear hb4
  go_wp2_with fail
  refine (HSN.out _).mono ?_
  rintro x w5 ⟨rfl, hb5⟩
  have HB5 := Lib.hid (below_thn HB4.out (Nat.le_refl _) hb5)
  clear hb5
  go_wp2_with fail
  refine (HAH.out _ HB5.out).mono ?_
  rintro x w6 ⟨rfl, hb6⟩
  have HB6 := Lib.hid (below_thn HB5.out (Nat.le_refl _) hb6)
  clear hb6
  go_wp2
  go_ret
  exact ⟨rfl, HB6.out⟩
end Go.Proofs.YtoodpajbefffhaaGreatDoor
