/- KNl: several texts in one (kmerge.py). -/
import Derived.Test.YtcceiblmdjbhjaaGreatDoorNfAw
import Derived.Test.YtcceiblmdjbhjaaGreatDoorKGq
import Derived.Test.YtcceiblmdjbhjaaGreatDoorScConv
import Derived.Test.YtcceiblmdjbhjaaGreatDoorSeCxB
import Derived.Test.YtcceiblmdjbhjaaGreatDoorKFs
import Derived.Test.YtcceiblmdjbhjaaGreatDoorRows
/- NfaLiteral: its walk. -/
namespace Go.Proofs.YtcceiblmdjbhjaaGreatDoor
open Go.RowKit

theorem conv_slz (w : World) (s : ByteArray) (hs : s.size ≤ 9223372036854775807) : ∃ cap W1, (convert 9 22 (.string s)).run Tryz.prog w = .ok (.slice (some ⟨w.heap.size, 0, none⟩) s.size cap) W1 ∧ Sl W1 (.slice (some ⟨w.heap.size, 0, none⟩) s.size cap) (bys s) ∧ Below w.heap.size w W1 ∧ w.heap.size < W1.heap.size := by
  have h1 := run_bytes_of_string (P := Tryz.prog) w 9 22 5 s Tryz.underlying9 Tryz.underlying22 Tryz.underlying5
  obtain ⟨cap, W1, h2, h3, h4⟩ := conv_sl w s hs
  refine ⟨cap, W1, h2, h3, h4, ?_⟩
  rw [h2] at h1
  simp only [Result.ok.injEq] at h1
  rw [h1.2]
  simp
set_option maxRecDepth 100000 in
set_option maxHeartbeats 8000000 in
theorem nli_bad (w : World) (s o : ByteArray) (ext : Bool) (q : ByteArray) (hq : q.size ≤ 9223372036854775807)
    (HQ : Hid (Calls Tryz.prog 27 #[.string s, .bool ext] w fun e w' => e = .returned (.string q) ∧ Below w.heap.size w w'))
    (HP : Hid (∀ w1 cap W2, Below w.heap.size w w1 → Sl W2 (.slice (some ⟨w1.heap.size, 0, none⟩) q.size cap) (bys q) → Below w1.heap.size w1 W2 → w1.heap.size < W2.heap.size → Calls Tryz.prog 26 #[.slice (some ⟨w1.heap.size, 0, none⟩) q.size cap, .bool ext] W2 fun x w' => ∃ k, x = .returned (.tuple #[.pointer none, .iface 76 (.pointer (some ⟨k, 0, none⟩))]) ∧ Below W2.heap.size W2 w'))
    (HA : Hid (∀ X, Below w.heap.size w X → Calls Tryz.prog 12 #[] X fun x w' => x = .returned (.bool true) ∧ Below X.heap.size X w')) :
    Calls Tryz.prog 9 #[.string s, .string o, .bool ext] w fun x w' => x = .returned (.bool true) ∧ Below w.heap.size w w' := by
  go_enter Tryz.func9, Tryz.ntmps9
  go_wp2_with fail
  refine HQ.out.mono ?_
  rintro x w1 ⟨rfl, hb1⟩
  have HB1 := Lib.hid hb1
  clear hb1
  obtain ⟨qc, W2, hcv, hsl2, hb2, hcz⟩ := conv_slz w1 q hq
  have HP2 := Lib.hid (HP.out w1 qc W2 HB1.out hsl2 hb2 hcz)
  have HB2 := Lib.hid (below_thn HB1.out (Nat.le_refl _) hb2)
  clear hsl2 hb2 hcz
  go_wp2_with fail
  refine HP2.out.mono ?_
  rintro x w3 ⟨k, rfl, hb3⟩
  have HB3 := Lib.hid (below_thn HB2.out (Nat.le_refl _) hb3)
  clear hb3 hcv HP2
  go_wp2_with fail
  refine (HA.out _ HB3.out).mono ?_
  rintro x w4 ⟨rfl, hb4⟩
  have HB4 := Lib.hid (below_thn HB3.out (Nat.le_refl _) hb4)
  clear hb4
  go_wp2
  go_ret
  exact ⟨rfl, HB4.out⟩
set_option maxRecDepth 100000 in
set_option maxHeartbeats 16000000 in
theorem nli_ok (w : World) (s o : ByteArray) (ext : Bool) (t : Nd) (q : ByteArray) (hq : q.size ≤ 9223372036854775807) (hs : s.size ≤ 1048576) (ho : o.size ≤ 1048576)
    (HQ : Hid (Calls Tryz.prog 27 #[.string s, .bool ext] w fun e w' => e = .returned (.string q) ∧ Below w.heap.size w w'))
    (HP : Hid (∀ w1 cap W2, Below w.heap.size w w1 → Sl W2 (.slice (some ⟨w1.heap.size, 0, none⟩) q.size cap) (bys q) → Below w1.heap.size w1 W2 → w1.heap.size < W2.heap.size → Calls Tryz.prog 26 #[.slice (some ⟨w1.heap.size, 0, none⟩) q.size cap, .bool ext] W2 fun x w' => ∃ p, x = .returned (.tuple #[.pointer (some ⟨p, 0, none⟩), .nilIface]) ∧ Below W2.heap.size W2 w' ∧ Calls Tryz.prog 13 #[.pointer (some ⟨p, 0, none⟩)] w' (BuQ t w')))
    (HC : Hid (∀ B gb X v l, Below w.heap.size w X → GrAt B gb t.G.1 t.G.2 X → Sl X v l → l.length ≤ 1048576 → Calls Tryz.prog 21 #[.pointer (some ⟨gb, 0, none⟩), v] X fun r w' => r = .returned (.bool (accF t.G l)) ∧ Below X.heap.size X w'))
    (HT : Hid (∀ l, Byt l → accF t.G l = decide (l = bys s)))
    (HA : Hid (∀ X, Below w.heap.size w X → Calls Tryz.prog 12 #[] X fun x w' => x = .returned (.bool true) ∧ Below X.heap.size X w')) :
    Calls Tryz.prog 9 #[.string s, .string o, .bool ext] w fun x w' => x = .returned (.bool true) ∧ Below w.heap.size w w' := by
  have HS1 : Hid (accF t.G (bys s) = true) := Lib.hid (by rw [HT.out _ (bys_byt s)]; simp)
  unfold BuQ at HP
  by_cases hso : s = o
  · subst hso
    go_enter Tryz.func9, Tryz.ntmps9
    go_wp2_with fail
    refine HQ.out.mono ?_
    rintro x w1 ⟨rfl, hb1⟩
    have HB1 := Lib.hid hb1
    clear hb1
    obtain ⟨qc, W2, hcv, hsl2, hb2, hcz⟩ := conv_slz w1 q hq
    have HP2 := Lib.hid (HP.out w1 qc W2 HB1.out hsl2 hb2 hcz)
    have HB2 := Lib.hid (below_thn HB1.out (Nat.le_refl _) hb2)
    clear hsl2 hb2 hcz
    go_wp2_with fail
    refine HP2.out.mono ?_
    rintro x w3 ⟨p, rfl, hb3, hbu⟩
    have HB3 := Lib.hid (below_thn HB2.out (Nat.le_refl _) hb3)
    have HBU := Lib.hid hbu
    clear hb3 hcv HP2 hbu
    go_wp2_with fail
    refine HBU.out.mono ?_
    rintro x w4 ⟨B, gb, rfl, _, hg4, hb4⟩
    have HB4 := Lib.hid (below_thn HB3.out (Nat.le_refl _) hb4)
    obtain ⟨sc, W5, hcv5, hsl5, hb5⟩ := conv_sl w4 s (by omega)
    have HB5 := Lib.hid (below_thn HB4.out (Nat.le_refl _) hb5)
    have hg5 := hg4.below hb5
    have HG5 := Lib.hid hg5
    have HX4 := Lib.hid (HC.out B gb W5 _ _ HB5.out hg5 hsl5 (by rw [bys_length]; exact hs))
    rw [HS1.out] at HX4
    clear hb4 hg4 hsl5 hb5 hg5
    go_wp2_with fail
    refine HX4.out.mono ?_
    rintro x w6 ⟨rfl, hb6⟩
    have HB6 := Lib.hid (below_thn HB5.out (Nat.le_refl _) hb6)
    obtain ⟨oc, W7, hcv7, hsl7, hb7⟩ := conv_sl w6 s (by omega)
    have HB7 := Lib.hid (below_thn HB6.out (Nat.le_refl _) hb7)
    have HX5 := Lib.hid (HC.out B gb W7 _ _ HB7.out ((HG5.out.below hb6).below hb7) hsl7 (by rw [bys_length]; exact hs))
    clear hb6 hsl7 hb7 hcv5
    rw [HS1.out] at HX5
    go_wp2_with fail
    refine HX5.out.mono ?_
    rintro x w8 ⟨rfl, hb8⟩
    have HB8 := Lib.hid (below_thn HB7.out (Nat.le_refl _) hb8)
    clear hb8 hcv7
    go_wp2_with fail
    refine (HA.out _ HB8.out).mono ?_
    rintro x w9 ⟨rfl, hb9⟩
    have HB9 := Lib.hid (below_thn HB8.out (Nat.le_refl _) hb9)
    clear hb9
    go_wp2
    go_ret
    exact ⟨rfl, HB9.out⟩
  · have HS2 : Hid (accF t.G (bys o) = false) := Lib.hid (by rw [HT.out _ (bys_byt o)]; exact decide_eq_false fun e => hso (bys_inj e.symm))
    have n2 : decide (s = o) = false := decide_eq_false hso
    have n3 : (s.toList == o.toList) = false := by
      rw [Bool.eq_false_iff]
      intro h
      rw [beq_iff_eq, ByteArray.toList_eq, ByteArray.toList_eq] at h
      exact hso (ByteArray.ext (Array.ext' h))
    clear hso
    go_enter Tryz.func9, Tryz.ntmps9
    go_wp2_with fail
    refine HQ.out.mono ?_
    rintro x w1 ⟨rfl, hb1⟩
    have HB1 := Lib.hid hb1
    clear hb1
    obtain ⟨qc, W2, hcv, hsl2, hb2, hcz⟩ := conv_slz w1 q hq
    have HP2 := Lib.hid (HP.out w1 qc W2 HB1.out hsl2 hb2 hcz)
    have HB2 := Lib.hid (below_thn HB1.out (Nat.le_refl _) hb2)
    clear hsl2 hb2 hcz
    go_wp2_with fail
    refine HP2.out.mono ?_
    rintro x w3 ⟨p, rfl, hb3, hbu⟩
    have HB3 := Lib.hid (below_thn HB2.out (Nat.le_refl _) hb3)
    have HBU := Lib.hid hbu
    clear hb3 hcv HP2 hbu
    go_wp2_with fail
    refine HBU.out.mono ?_
    rintro x w4 ⟨B, gb, rfl, _, hg4, hb4⟩
    have HB4 := Lib.hid (below_thn HB3.out (Nat.le_refl _) hb4)
    obtain ⟨sc, W5, hcv5, hsl5, hb5⟩ := conv_sl w4 s (by omega)
    have HB5 := Lib.hid (below_thn HB4.out (Nat.le_refl _) hb5)
    have hg5 := hg4.below hb5
    have HG5 := Lib.hid hg5
    have HX4 := Lib.hid (HC.out B gb W5 _ _ HB5.out hg5 hsl5 (by rw [bys_length]; exact hs))
    rw [HS1.out] at HX4
    clear hb4 hg4 hsl5 hb5 hg5
    go_wp2_with fail
    refine HX4.out.mono ?_
    rintro x w6 ⟨rfl, hb6⟩
    have HB6 := Lib.hid (below_thn HB5.out (Nat.le_refl _) hb6)
    obtain ⟨oc, W7, hcv7, hsl7, hb7⟩ := conv_sl w6 o (by omega)
    have HB7 := Lib.hid (below_thn HB6.out (Nat.le_refl _) hb7)
    have HX5 := Lib.hid (HC.out B gb W7 _ _ HB7.out ((HG5.out.below hb6).below hb7) hsl7 (by rw [bys_length]; exact ho))
    clear hb6 hsl7 hb7 hcv5
    rw [HS2.out] at HX5
    go_wp2_with fail
    refine HX5.out.mono ?_
    rintro x w8 ⟨rfl, hb8⟩
    have HB8 := Lib.hid (below_thn HB7.out (Nat.le_refl _) hb8)
    clear hb8 hcv7
    go_wp2_with fail
    refine (HA.out _ HB8.out).mono ?_
    rintro x w9 ⟨rfl, hb9⟩
    have HB9 := Lib.hid (below_thn HB8.out (Nat.le_refl _) hb9)
    clear hb9
    go_wp2
    go_ret
    exact ⟨rfl, HB9.out⟩
end Go.Proofs.YtcceiblmdjbhjaaGreatDoor
/- NfaLiteral: any strings; opened. -/
namespace Go.Proofs.YtcceiblmdjbhjaaGreatDoor
open Go.RowKit

theorem quoR_ge9 (ext : Bool) : ∀ l : List Int, l.length ≤ (quoR ext l).length
  | [] => by simp
  | c :: l => by
    rw [quoR_cons, List.length_append, List.length_cons]
    have := quo1_pos ext c
    have := quoR_ge9 ext l
    omega
theorem quo1_le9 (ext : Bool) (c : Int) : (quo1 ext c).length ≤ 2 := by unfold quo1; (repeat' split) <;> simp
theorem quoR_le9 (ext : Bool) : ∀ l : List Int, (quoR ext l).length ≤ 2 * l.length
  | [] => by simp [quoR]
  | c :: l => by
    rw [quoR_cons, List.length_append, List.length_cons]
    have := quo1_le9 ext c
    have := quoR_le9 ext l
    omega
theorem nlit_any (cf : ByteArray → (Nat → Bool) × Bool) (hcf : ClassOk cf) (e : Nat → Addr) (s o : ByteArray) (ext : Bool) (w : World) (hs : s.size ≤ 1048576) (ho : o.size ≤ 1048576) (he : Es w w.heap.size e) (ht : Ety w) :
    Calls Tryz.prog 9 #[.string s, .string o, .bool ext] w fun x w' => x = .returned (.bool true) ∧ Below w.heap.size w w' := by
  have HA : Hid (∀ X, Below w.heap.size w X → Calls Tryz.prog 12 #[] X fun x w' => x = .returned (.bool true) ∧ Below X.heap.size X w') := Lib.hid (fun X hX => awake9_any e X ⟨(he.below hX).var, Nat.lt_of_lt_of_le he.low hX.size, Nat.le_refl _⟩ (ht.below hX))
  have HQ := Lib.hid (rquote_any s ext w hs)
  have hqb : Byt (quoR ext (bys s)) := quoR_byt (bys_byt s) ext
  have hqz : (ofBys (quoR ext (bys s))).size = (quoR ext (bys s)).length := ofBys_size _
  have hq2 := quoR_le9 ext (bys s)
  rw [bys_length] at hq2
  have hbo : bys (ofBys (quoR ext (bys s))) = quoR ext (bys s) := bys_ofBys hqb
  have hpar : ∀ (r : RR) (n : Nat), parseN cf (quoR ext (bys s)) ext n = some r → ∀ w1 cap W2, Below w.heap.size w w1 → Sl W2 (.slice (some ⟨w1.heap.size, 0, none⟩) (ofBys (quoR ext (bys s))).size cap) (bys (ofBys (quoR ext (bys s)))) → Below w1.heap.size w1 W2 → w1.heap.size < W2.heap.size → Calls Tryz.prog 26 #[.slice (some ⟨w1.heap.size, 0, none⟩) (ofBys (quoR ext (bys s))).size cap, .bool ext] W2 (ParP e ext r W2) := fun r n hr w1 cap W2 hb1 hsl hb2 hlt => by
    have hb := below_thn hb1 (Nat.le_refl _) hb2
    rw [hbo] at hsl
    exact parse_any cf e _ _ (bkC_of hcf _) ext n r W2 ⟨(he.below hb).var, Nat.lt_of_lt_of_le he.low hb.size, Nat.le_refl _⟩ (ht.below hb) hsl (fun x o n cap hv => by
      simp only [Value.slice.injEq, Option.some.injEq, Addr.mk.injEq] at hv
      omega) hr
  have hbad : ∀ c p n, parseN cf (quoR ext (bys s)) ext n = some (.bad c p) → Calls Tryz.prog 9 #[.string s, .string o, .bool ext] w fun x w' => x = .returned (.bool true) ∧ Below w.heap.size w w' := fun c p n hr =>
    nli_bad w s o ext _ (by omega) HQ (Lib.hid fun w1 cap W2 hb1 hsl hb2 hlt => (hpar _ n hr w1 cap W2 hb1 hsl hb2 hlt).mono fun x w' ⟨k, hx, _, hb⟩ => ⟨k, hx, hb⟩) HA
  by_cases h0 : s.size = 0
  · have e0 : bys s = [] := List.length_eq_zero_iff.1 (by rw [bys_length]; exact h0)
    refine hbad 3 0 30 ?_
    rw [e0]
    cases ext <;> kernel_rfl
  have hne : bys s ≠ [] := fun h => h0 (by rw [← bys_length, h]; rfl)
  by_cases h256 : 256 < (quoR ext (bys s)).length
  · refine hbad 2 0 0 ?_
    unfold parseN
    rw [if_pos h256]
  obtain ⟨k, hk⟩ := parse_quo cf ext (bys s) hne (by omega)
  have hlt := quoR_ge9 ext (bys s)
  rw [bys_length] at hlt
  have hT : (joinN 4 ((bys s).map fun c => setN (mem [c]))) = litT (bys s) := rfl
  rw [hT] at hk
  have hok := parseN_okN hqb hk
  have hsz := (parseN_fit hqb hk).2
  have hW : (litT (bys s)).W = s.size := by rw [litT_w, bys_length]
  refine nli_ok w s o ext (litT (bys s)) _ (by omega) hs ho HQ (Lib.hid fun w1 cap W2 hb1 hsl hb2 hlt => (hpar _ _ hk w1 cap W2 hb1 hsl hb2 hlt).mono fun x w' ⟨p, a, m, c, hx, _, hre, hin, hb⟩ => ⟨p, hx, hb, build_at _ w' p _ _ 0 ext hre (by omega) (by omega) hok.1 hok.2.2 hin (by omega)⟩) ?_ (Lib.hid fun l hl => lit_acc hl (bys_byt s) hne) HA
  have hlen : (litT (bys s)).G.1.length ≤ 1000000 := by have := Nd.lenB _ hok.1 [.acc] 0; unfold Nd.G; simp at this; omega
  exact Lib.hid fun B gb X v l _ hg hsl hl => nacc_any B gb (litT (bys s)).G.2 (litT (bys s)).G.1 v l X (Nd.clG _ hok.1) hlen hg (Nd.g_start _ hok.1) hsl (by omega)
set_option maxRecDepth 100000 in
theorem nfaLiteral_open {H : Type} {enc : TypeId × Value → H} {d0 d1 d2 : DataW H} {p0 p1 p2 : List MemPlace} {q : Prop} (W : World) (base : Nat) (v0 v1 v2 : Value)
    (h0 : DataW.Trod enc Tryz.prog W 0 (fun _ => true) true 9 v0 d0 p0) (h1 : DataW.Trod enc Tryz.prog W 0 (fun _ => true) true 9 v1 d1 p1) (h2 : DataW.Trod enc Tryz.prog W 0 (fun _ => true) true 4 v2 d2 p2)
    (k0 : Value.okWide Tryz.prog W .any base 9 v0) (k1 : Value.okWide Tryz.prog W .any base 9 v1) (k2 : Value.okWide Tryz.prog W .any base 4 v2) (_ : q)
    (hk : Rows.uptoSmall H [d0, d1, d2] = true) (hL : laidMetH Tryz.prog Rows.nfaLiteralUptoRow.laid W) :
    Calls Tryz.prog 9 #[v0, v1, v2] W fun e W' => e = .returned (.bool true) ∧ Below W.heap.size W W' := by
  obtain ⟨s, rfl, rfl, _, _⟩ := Go.ChangeMaps.open_string Tryz.underlying9 k0 h0
  obtain ⟨o, rfl, rfl, _, _⟩ := Go.ChangeMaps.open_string Tryz.underlying9 k1 h1
  obtain ⟨g, rfl, rfl, _⟩ := RowKit.open_bool Tryz.underlying4 k2 h2
  obtain ⟨e, hsn⟩ := snt_of_laid2 (by kernel_rfl) (by kernel_rfl) hL
  obtain ⟨cf, hcf⟩ := classes_ok
  have hb : Rows.uptoBulkAll [DataW.lit (H := H) (.string s.data.toList), DataW.lit (H := H) (.string o.data.toList), DataW.lit (H := H) (.bool g)] ≤ 1048576 := of_decide_eq_true hk
  simp only [Rows.uptoBulkAll, Rows.uptoBulk] at hb
  have hss : s.data.toList.length = s.size := by simp
  have hso : o.data.toList.length = o.size := by simp
  refine nlit_any cf hcf e s o g W (by omega) (by omega) ⟨hsn.var, ?_, Nat.le_refl _⟩ hsn.ety
  have a := World.block_lt_of_cell? _ _ (hsn.var 21 (by omega) (by omega))
  have b := World.block_lt_of_cell? _ _ hsn.ety
  simp at a b
  omega
end Go.Proofs.YtcceiblmdjbhjaaGreatDoor
