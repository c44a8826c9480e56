/- The contract of (*Pattern).read. -/
import Derived.Test.YtoodpajbefffhaaDoorGlM2
import Derived.Test.YtoodpajbefffhaaDoorKSet
import Derived.Test.YtoodpajbefffhaaDoorSeCxB
namespace Go.Proofs.YtoodpajbefffhaaDoor
open Go.RowKit

theorem many_v : Pc.many.v = .agg #[.int .i64 3, .int .u64 0, .int .u64 0, .int .u64 0, .int .u64 0] := by
  unfold Pc.v
  have z : ∀ i, ((sw (fun _ => false) i : Nat) : Int) = 0 := sw_zero
  have e : Pc.many.set = fun _ => false := rfl
  rw [e, z, z, z, z]
  rfl
theorem one_v : Pc.one.v = .agg #[.int .i64 2, .int .u64 0, .int .u64 0, .int .u64 0, .int .u64 0] := by
  unfold Pc.v
  have z : ∀ i, ((sw (fun _ => false) i : Nat) : Int) = 0 := sw_zero
  have e : Pc.one.set = fun _ => false := rfl
  rw [e, z, z, z, z]
  rfl
/-- The loop's state: so many bytes are read. -/
structure RdI (cf : ByteArray → (Nat → Bool) × Bool) (w0 : World) (b : Nat) (l : List Int) (k : Nat) (ps : List Pc) (X : World) : Prop where
  hk : k ≤ l.length
  bel : Below w0.heap.size w0 X
  pat : PatAt w0.heap.size b ps X
  spl : ps ++ glN cf l (l.length + 1) k = glP cf l

set_option maxRecDepth 100000 in
set_option maxHeartbeats 16000000 in
theorem gread_any (cf : ByteArray → (Nat → Bool) × Bool) (hcf : ClassOk cf) (e : Nat → Addr) (w0 : World) (x o cap : Nat) (l : List Int) (b : Nat) (w : World) (he : Es w0 w0.heap.size e) (hT : TZ w0) (hs : Sl w0 (.slice (some ⟨x, o, none⟩) l.length cap) l) (hl : l.length ≤ 1048576) (hlc : l.length ≤ cap) (hcm : cap ≤ 9223372036854775807)
    (hrow : Row w0 x o l) (hpat : PatAt w0.heap.size b [] w) (hbel : Below w0.heap.size w0 w) :
    Calls Tryd.prog 36 #[.pointer (some ⟨b, 0, none⟩), .slice (some ⟨x, o, none⟩) l.length cap] w fun e w' => e = .returned (.tuple #[]) ∧ PatAt w0.heap.size b (glP cf l) w' ∧ Below w0.heap.size w0 w' := by
  have HE := Lib.hid he
  have HT := Lib.hid hT
  have HS := Lib.hid hs
  have HCF := Lib.hid hcf
  have HI0 : Hid (RdI cf w0 b l 0 [] w) := Lib.hid ⟨Nat.zero_le _, hbel, hpat, rfl⟩
  have HROW := Lib.hid hrow
  obtain ⟨n, hn⟩ : ∃ n, n = l.length := ⟨_, rfl⟩
  have hby := hs.1
  have HBY := Lib.hid hby
  rw [← hn] at hl hlc ⊢
  have HN := Lib.hid hn
  clear he hT hs hcf hpat hbel hrow hn hby
  go_enter Tryd.func36, Tryd.ntmps36
  go_wp2
  go_step3
  go_wp2
  go_step3
  go_wp2
  go_loopw [4] (fun v X => ∃ k ps, v = .int .i64 (k : Nat) ∧ RdI cf w0 b l k ps X) (fun v _ => n - (intOf v).toNat)
  case atStart => exact ⟨0, [], rfl, HI0.out⟩
  case round =>
    obtain ⟨k, ps, rfl, hI⟩ := hrel
    have hk := hI.hk
    rw [← HN.out] at hk
    have HI := Lib.hid hI
    clear hI
    by_cases hlt : k < n
    · have hltL : k < l.length := by rw [← HN.out]; exact hlt
      have hcell := HROW.out k hltL
      have hcX : wr.cell? ⟨x, o + k, none⟩ = some (.int .u8 (l.getD k 0)) := by
        have hx := World.block_lt_of_cell? _ _ hcell
        rw [HI.out.bel.cell (p := ⟨x, o + k, none⟩) hx]; exact hcell
      have hby := HBY.out k
      have HG := Lib.hid (glN_step cf l k hltL)
      have HLN : Hid (ps.length ≤ l.length) := Lib.hid (by have h1 := congrArg List.length HI.out.spl; rw [List.length_append] at h1; have := glP_len cf l; omega)
      have hpsn : ps.length ≤ 1048576 := by have := HLN.out; rw [← HN.out] at this; omega
      have HTB : Hid (21 < w0.heap.size) := Lib.hid (by have := World.block_lt_of_cell? _ _ (HT.out 0 (by decide)); exact this)
      have HADD : ∀ (pc : Pc) (X : World), Below w0.heap.size w0 X → PatAt w0.heap.size b ps X → Hid (Calls Tryd.prog 46 #[.pointer (some ⟨b, 0, none⟩), pc.v] X fun e w' => e = .returned (.tuple #[]) ∧ PatAt w0.heap.size b (ps ++ [pc]) w' ∧ Below w0.heap.size X w') := fun pc X h1 h2 => Lib.hid (add_any w0.heap.size b ps pc X h2 h1.size HTB.out hpsn (HT.out.belowB h1 HTB.out))
      have HADDH := Lib.hid HADD
      clear hcell hby HADD
      generalize hce : l.getD k 0 = c at *
      have HCE := Lib.hid hce
      clear hce
      have hkI : (k : Int) < (n : Int) := by omega
      have hbx := HBY.out k
      rw [HCE.out] at hbx
      obtain ⟨hb0, hb1⟩ := hbx
      by_cases h42 : c = 42
      · subst h42
        have HSTP : Hid (stepG cf l k = (.many, 1)) := Lib.hid (by unfold stepG; rw [HCE.out, if_pos rfl])
        have hA := HADDH.out .many wr HI.out.bel HI.out.pat
        rw [many_v] at hA
        go_wp2_with fail
        refine hA.out.mono ?_
        rintro e' w2 ⟨rfl, hp2, hb2⟩
        have HN2 : Hid (RdI cf w0 b l (k + 1) (ps ++ [.many]) w2) := Lib.hid ⟨by have := (stepG_pos cf l k hltL).2; rw [HSTP.out] at this; exact this, HI.out.bel.trans hb2, hp2, by rw [List.append_assoc, List.singleton_append]; have := HG.out; rw [HSTP.out] at this; rw [← this]; exact HI.out.spl⟩
        clear hp2 hb2
        clear hA
        go_wp2
        go_roundw
        case rel => exact ⟨k + 1, ps ++ [.many], by go_num, HN2.out⟩
        case measure => simp [intOf]; omega
      by_cases h63 : c = 63
      · subst h63
        have HSTP : Hid (stepG cf l k = (.one, 1)) := Lib.hid (by unfold stepG; rw [HCE.out, if_neg (by decide), if_pos rfl])
        have hA := HADDH.out .one wr HI.out.bel HI.out.pat
        rw [one_v] at hA
        go_wp2_with fail
        refine hA.out.mono ?_
        rintro e' w2 ⟨rfl, hp2, hb2⟩
        have HN2 : Hid (RdI cf w0 b l (k + 1) (ps ++ [.one]) w2) := Lib.hid ⟨by have := (stepG_pos cf l k hltL).2; rw [HSTP.out] at this; exact this, HI.out.bel.trans hb2, hp2, by rw [List.append_assoc, List.singleton_append]; have := HG.out; rw [HSTP.out] at this; rw [← this]; exact HI.out.spl⟩
        clear hp2 hb2
        clear hA
        go_wp2
        go_roundw
        case rel => exact ⟨k + 1, ps ++ [.one], by go_num, HN2.out⟩
        case measure => simp [intOf]; omega
      have e42 : (c == 42) = false := beq_eq_false_iff_ne.2 h42
      have e63 : (c == 63) = false := beq_eq_false_iff_ne.2 h63
      by_cases h91 : c = 91
      · subst h91
        have hdl : (l.drop (k + 1)).length = l.length - (k + 1) := List.length_drop
        have HSL : Hid (Sl wr (.slice (some ⟨x, o, none⟩) n cap) l) := Lib.hid (by rw [HN.out]; exact HS.out.below HI.out.bel)
        have HES : Hid (Es wr wr.heap.size e) := Lib.hid ⟨(HE.out.below HI.out.bel).var, Nat.lt_of_lt_of_le HE.out.low HI.out.bel.size, Nat.le_refl _⟩
        have HBR := Lib.hid (bkt_any cf HCF.out e (.slice (some ⟨x, o, none⟩) n cap) l (k + 1) 2 (by rw [← HN.out]; omega) wr HES.out HSL.out (by omega) (Or.inl rfl))
        clear hdl
        rw [show decide ((2 : Int) = 2) = true from rfl] at HBR
        have hk1 : ((k + 1 : Nat) : Int) = (k : Int) + 1 := by omega
        rw [hk1] at HBR
        cases hbr : brkR cf (ofBys (l.drop (k + 1))) true 0 with
        | ok p nx =>
          rw [hbr] at HBR
          have HSTP : Hid (stepG cf l k = (.byt p, 1 + nx)) := Lib.hid (by unfold stepG; rw [HCE.out, if_neg (by decide), if_neg (by decide), if_pos rfl, hbr])
          have hpos := stepG_pos cf l k hltL
          rw [HSTP.out] at hpos
          have hpos2 : k + (1 + nx) ≤ n := by rw [HN.out]; exact hpos.2
          have HBR2 : Hid (Calls Tryd.prog 47 #[.slice (some ⟨x, o, none⟩) n cap, .int .i64 ((k : Int) + 1), .int .i64 2] wr fun e' w' => e' = .returned (.tuple #[.agg #[.int .u64 (sw p 0 : Nat), .int .u64 (sw p 1 : Nat), .int .u64 (sw p 2 : Nat), .int .u64 (sw p 3 : Nat)], .int .i64 (k + 1 + nx : Nat), .nilIface]) ∧ Below wr.heap.size wr w') := HBR
          clear hbr HBR hpos
          go_wp2_with fail
          refine HBR2.out.mono ?_
          rintro e' w1 ⟨rfl, hb1'⟩
          obtain ⟨w1x, hw1x⟩ : ∃ W, W = w1.alloc (.cells #[.int .u64 (sw p 0 : Nat), .int .u64 (sw p 1 : Nat), .int .u64 (sw p 2 : Nat), .int .u64 (sw p 3 : Nat)] 39) := ⟨_, rfl⟩
          have HB1 : Hid (Below w0.heap.size w0 w1) := Lib.hid (below_thn HI.out.bel (Nat.le_refl _) hb1')
          have HP1 : Hid (PatAt w0.heap.size b ps w1) := Lib.hid (HI.out.pat.next hb1')
          have HB1x : Hid (Below w0.heap.size w0 (w1.alloc (.cells #[.int .u64 (sw p 0 : Nat), .int .u64 (sw p 1 : Nat), .int .u64 (sw p 2 : Nat), .int .u64 (sw p 3 : Nat)] 39))) := Lib.hid (HB1.out.alloc HB1.out.size _)
          have HP1x : Hid (PatAt w0.heap.size b ps (w1.alloc (.cells #[.int .u64 (sw p 0 : Nat), .int .u64 (sw p 1 : Nat), .int .u64 (sw p 2 : Nat), .int .u64 (sw p 3 : Nat)] 39))) := Lib.hid (HP1.out.next ((Below.refl _ _).alloc (Nat.le_refl _) _))
          have hA := HADDH.out (.byt p) _ HB1x.out HP1x.out
          clear hb1' hw1x w1x
          go_wp2_with fail
          refine hA.out.mono ?_
          rintro e' w2 ⟨rfl, hp2, hb2⟩
          have HN2 : Hid (RdI cf w0 b l (k + (1 + nx)) (ps ++ [.byt p]) w2) := Lib.hid ⟨by have := (stepG_pos cf l k hltL).2; rw [HSTP.out] at this; exact this, HB1x.out.trans hb2, hp2, by rw [List.append_assoc, List.singleton_append]; have := HG.out; rw [HSTP.out] at this; rw [← this]; exact HI.out.spl⟩
          clear hp2 hb2
          clear hA
          go_wp2
          go_roundw
          case rel => exact ⟨k + (1 + nx), ps ++ [.byt p], by go_num, HN2.out⟩
          case measure => simp [intOf]; omega
        | bad cd pos =>
          rw [hbr] at HBR
          have HSTP : Hid (stepG cf l k = (.byt (mem [91]), 1)) := Lib.hid (by unfold stepG; rw [HCE.out, if_neg (by decide), if_neg (by decide), if_pos rfl, hbr])
          have HBR2 : Hid (Calls Tryd.prog 47 #[.slice (some ⟨x, o, none⟩) n cap, .int .i64 ((k : Int) + 1), .int .i64 2] wr fun e' w' => ∃ v, e' = .returned (.tuple #[.agg #[.int .u64 (sw noP 0 : Nat), .int .u64 (sw noP 1 : Nat), .int .u64 (sw noP 2 : Nat), .int .u64 (sw noP 3 : Nat)], .int .i64 0, v]) ∧ ErrS w' wr.heap.size e 2 cd (k + 1 + pos : Nat) v ∧ Below wr.heap.size wr w') := HBR
          clear hbr HBR
          go_wp2_with fail
          refine HBR2.out.mono ?_
          rintro e' w1 ⟨v, rfl, her, hb1'⟩
          obtain ⟨kk, rfl⟩ := her.iface
          have HB1e : Hid (Below w0.heap.size w0 w1) := Lib.hid (below_thn HI.out.bel (Nat.le_refl _) hb1')
          have HP1e : Hid (PatAt w0.heap.size b ps w1) := Lib.hid (HI.out.pat.next hb1')
          have hxl : x < wr.heap.size := World.block_lt_of_cell? _ _ hcX
          have hcd0 : w1.cell? ⟨x, o + k, none⟩ = some (.int .u8 91) := by rw [hb1'.cell (p := ⟨x, o + k, none⟩) hxl]; exact hcX
          clear her hb1' hcX
          have HB1v : Hid (Below w0.heap.size w0 (w1.alloc (.cells #[.int .u64 (sw noP 0 : Nat), .int .u64 (sw noP 1 : Nat), .int .u64 (sw noP 2 : Nat), .int .u64 (sw noP 3 : Nat)] 39))) := Lib.hid (HB1e.out.alloc HB1e.out.size _)
          have HP1v : Hid (PatAt w0.heap.size b ps (w1.alloc (.cells #[.int .u64 (sw noP 0 : Nat), .int .u64 (sw noP 1 : Nat), .int .u64 (sw noP 2 : Nat), .int .u64 (sw noP 3 : Nat)] 39))) := Lib.hid (HP1e.out.next ((Below.refl _ _).alloc (Nat.le_refl _) _))
          have hcd : (w1.alloc (.cells #[.int .u64 (sw noP 0 : Nat), .int .u64 (sw noP 1 : Nat), .int .u64 (sw noP 2 : Nat), .int .u64 (sw noP 3 : Nat)] 39)).cell? ⟨x, o + k, none⟩ = some (.int .u8 91) := by
            rw [((Below.refl w1.heap.size w1).alloc (Nat.le_refl _) _).cell (p := ⟨x, o + k, none⟩) (World.block_lt_of_cell? _ _ hcd0)]; exact hcd0
          clear hcd0
          have HSB : Hid (Sl (w1.alloc (.cells #[.int .u64 (sw noP 0 : Nat), .int .u64 (sw noP 1 : Nat), .int .u64 (sw noP 2 : Nat), .int .u64 (sw noP 3 : Nat)] 39)) (.slice (some ⟨x, o + (k), none⟩) 1 (cap - (k))) [91]) := Lib.hid ⟨byt_of (fun z hz => by rw [List.mem_singleton.1 hz]; exact ⟨by omega, by omega⟩), by simp, Or.inr ⟨x, o + (k), cap - (k), rfl, by show 1 ≤ _; omega, by omega, fun i hi => by have h0 : i = 0 := (by simpa using hi); subst h0; simpa using hcd⟩⟩
          have hcv := conv_string HSB.out
          have HOF : Hid (Calls Tryd.prog 28 #[.string (ofBys [91])] (w1.alloc (.cells #[.int .u64 (sw noP 0 : Nat), .int .u64 (sw noP 1 : Nat), .int .u64 (sw noP 2 : Nat), .int .u64 (sw noP 3 : Nat)] 39)) fun e w' => e = .returned (.agg #[.int .u64 (sw (mem [91]) 0 : Nat), .int .u64 (sw (mem [91]) 1 : Nat), .int .u64 (sw (mem [91]) 2 : Nat), .int .u64 (sw (mem [91]) 3 : Nat)]) ∧ Below (w1.alloc (.cells #[.int .u64 (sw noP 0 : Nat), .int .u64 (sw noP 1 : Nat), .int .u64 (sw noP 2 : Nat), .int .u64 (sw noP 3 : Nat)] 39)).heap.size (w1.alloc (.cells #[.int .u64 (sw noP 0 : Nat), .int .u64 (sw noP 1 : Nat), .int .u64 (sw noP 2 : Nat), .int .u64 (sw noP 3 : Nat)] 39)) w') := Lib.hid (by have := of_any (ofBys [91]) (w1.alloc (.cells #[.int .u64 (sw noP 0 : Nat), .int .u64 (sw noP 1 : Nat), .int .u64 (sw noP 2 : Nat), .int .u64 (sw noP 3 : Nat)] 39)) (by rw [ofBys_size]; simp); rw [bys_ofBys HSB.out.1] at this; exact this)
          have hof : (ofBys [91]).size = 1 := by rw [ofBys_size]; rfl
          generalize ofBys [91] = sb at *
          go_wp2_with fail
          refine HOF.out.mono ?_
          rintro e' w1 ⟨rfl, hb1'⟩
          have HB1 : Hid (Below w0.heap.size w0 w1) := Lib.hid (below_thn HB1v.out (Nat.le_refl _) hb1')
          have HP1 : Hid (PatAt w0.heap.size b ps w1) := Lib.hid (HP1v.out.next hb1')
          have hA := HADDH.out (.byt (mem [91])) w1 HB1.out HP1.out
          clear hb1' hcv
          go_wp2_with fail
          refine hA.out.mono ?_
          rintro e' w2 ⟨rfl, hp2, hb2⟩
          have HN2 : Hid (RdI cf w0 b l (k + 1) (ps ++ [.byt (mem [91])]) w2) := Lib.hid ⟨by have := (stepG_pos cf l k hltL).2; rw [HSTP.out] at this; exact this, HB1.out.trans hb2, hp2, by rw [List.append_assoc, List.singleton_append]; have := HG.out; rw [HSTP.out] at this; rw [← this]; exact HI.out.spl⟩
          clear hp2 hb2
          clear hA
          go_wp2
          go_roundw
          case rel => exact ⟨k + 1, ps ++ [.byt (mem [91])], by go_num, HN2.out⟩
          case measure => simp [intOf]; omega
      have e91 : (c == 91) = false := beq_eq_false_iff_ne.2 h91
      by_cases h92 : c = 92
      · subst h92
        by_cases hk1 : k + 1 < n
        · have hk1L : k + 1 < l.length := by rw [← HN.out]; exact hk1
          obtain ⟨d, hd⟩ : ∃ d, d = l.getD (k + 1) 0 := ⟨_, rfl⟩
          have hcd : wr.cell? ⟨x, o + (k + 1), none⟩ = some (.int .u8 d) := by
            have h0 := HROW.out (k + 1) hk1L
            rw [HI.out.bel.cell (p := ⟨x, o + (k + 1), none⟩) (World.block_lt_of_cell? _ _ h0), hd]; exact h0
          have hdb := HBY.out (k + 1)
          rw [← hd] at hdb
          obtain ⟨d0, d1⟩ := hdb
          have HSTP : Hid (stepG cf l k = (.byt (mem [d]), 2)) := Lib.hid (by unfold stepG; rw [HCE.out, if_neg (by decide), if_neg (by decide), if_neg (by decide), if_pos rfl, if_pos hk1L, hd])
          clear hd
          have hmin : min ((k : Int) + 1) ((n : Int) - 1) = (k : Int) + 1 := by omega
          have HSB : Hid (Sl wr (.slice (some ⟨x, o + (k + 1), none⟩) 1 (cap - (k + 1))) [d]) := Lib.hid ⟨byt_of (fun z hz => by rw [List.mem_singleton.1 hz]; exact ⟨by omega, by omega⟩), by simp, Or.inr ⟨x, o + (k + 1), cap - (k + 1), rfl, by show 1 ≤ _; omega, by omega, fun i hi => by have h0 : i = 0 := (by simpa using hi); subst h0; simpa using hcd⟩⟩
          have hcv := conv_string HSB.out
          have HOF : Hid (Calls Tryd.prog 28 #[.string (ofBys [d])] wr fun e w' => e = .returned (.agg #[.int .u64 (sw (mem [d]) 0 : Nat), .int .u64 (sw (mem [d]) 1 : Nat), .int .u64 (sw (mem [d]) 2 : Nat), .int .u64 (sw (mem [d]) 3 : Nat)]) ∧ Below wr.heap.size wr w') := Lib.hid (by have := of_any (ofBys [d]) wr (by rw [ofBys_size]; simp); rw [bys_ofBys HSB.out.1] at this; exact this)
          have hof : (ofBys [d]).size = 1 := by rw [ofBys_size]; rfl
          generalize ofBys [d] = sb at *
          go_wp2_with fail
          refine HOF.out.mono ?_
          rintro e' w1 ⟨rfl, hb1'⟩
          have HB1 : Hid (Below w0.heap.size w0 w1) := Lib.hid (below_thn HI.out.bel (Nat.le_refl _) hb1')
          have HP1 : Hid (PatAt w0.heap.size b ps w1) := Lib.hid (HI.out.pat.next hb1')
          have hA := HADDH.out (.byt (mem [d])) w1 HB1.out HP1.out
          clear hb1' hcv
          go_wp2_with fail
          refine hA.out.mono ?_
          rintro e' w2 ⟨rfl, hp2, hb2⟩
          have HN2 : Hid (RdI cf w0 b l (k + 2) (ps ++ [.byt (mem [d])]) w2) := Lib.hid ⟨by have := (stepG_pos cf l k hltL).2; rw [HSTP.out] at this; exact this, HB1.out.trans hb2, hp2, by rw [List.append_assoc, List.singleton_append]; have := HG.out; rw [HSTP.out] at this; rw [← this]; exact HI.out.spl⟩
          clear hp2 hb2
          clear hA
          go_wp2
          go_roundw
          case rel => exact ⟨k + 2, ps ++ [.byt (mem [d])], by go_num, HN2.out⟩
          case measure => simp [intOf]; omega
        · have hke : k + 1 = n := by omega
          have hcd := hcX
          have HSTP : Hid (stepG cf l k = (.byt (mem [92]), 1)) := Lib.hid (by unfold stepG; rw [HCE.out, if_neg (by decide), if_neg (by decide), if_neg (by decide), if_pos rfl, if_neg (by rw [← HN.out]; omega)])
          have e1 : n - 1 = k := by omega
          have e2 : n - (n - 1) = 1 := by omega
          have HSB : Hid (Sl wr (.slice (some ⟨x, o + (k), none⟩) 1 (cap - (k))) [92]) := Lib.hid ⟨byt_of (fun z hz => by rw [List.mem_singleton.1 hz]; exact ⟨by omega, by omega⟩), by simp, Or.inr ⟨x, o + (k), cap - (k), rfl, by show 1 ≤ _; omega, by omega, fun i hi => by have h0 : i = 0 := (by simpa using hi); subst h0; simpa using hcd⟩⟩
          have HSB2 : Hid (Sl wr (.slice (some ⟨x, o + (n - 1), none⟩) (n - (n - 1)) (cap - (n - 1))) [92]) := Lib.hid (by rw [e2, e1]; exact HSB.out)
          clear e1 e2
          have hcv := conv_string HSB2.out
          have HOF : Hid (Calls Tryd.prog 28 #[.string (ofBys [92])] wr fun e w' => e = .returned (.agg #[.int .u64 (sw (mem [92]) 0 : Nat), .int .u64 (sw (mem [92]) 1 : Nat), .int .u64 (sw (mem [92]) 2 : Nat), .int .u64 (sw (mem [92]) 3 : Nat)]) ∧ Below wr.heap.size wr w') := Lib.hid (by have := of_any (ofBys [92]) wr (by rw [ofBys_size]; simp); rw [bys_ofBys HSB.out.1] at this; exact this)
          have hof : (ofBys [92]).size = 1 := by rw [ofBys_size]; rfl
          generalize ofBys [92] = sb at *
          go_wp2_with fail
          refine HOF.out.mono ?_
          rintro e' w1 ⟨rfl, hb1'⟩
          have HB1 : Hid (Below w0.heap.size w0 w1) := Lib.hid (below_thn HI.out.bel (Nat.le_refl _) hb1')
          have HP1 : Hid (PatAt w0.heap.size b ps w1) := Lib.hid (HI.out.pat.next hb1')
          have hA := HADDH.out (.byt (mem [92])) w1 HB1.out HP1.out
          clear hb1' hcv
          go_wp2_with fail
          refine hA.out.mono ?_
          rintro e' w2 ⟨rfl, hp2, hb2⟩
          have HN2 : Hid (RdI cf w0 b l (k + 1) (ps ++ [.byt (mem [92])]) w2) := Lib.hid ⟨by have := (stepG_pos cf l k hltL).2; rw [HSTP.out] at this; exact this, HB1.out.trans hb2, hp2, by rw [List.append_assoc, List.singleton_append]; have := HG.out; rw [HSTP.out] at this; rw [← this]; exact HI.out.spl⟩
          clear hp2 hb2
          clear hA
          go_wp2
          go_roundw
          case rel => exact ⟨k + 1, ps ++ [.byt (mem [92])], by go_num, HN2.out⟩
          case measure => simp [intOf]; omega
      have e92 : (c == 92) = false := beq_eq_false_iff_ne.2 h92
      have hcd := hcX
      have HSTP : Hid (stepG cf l k = (.byt (mem [c]), 1)) := Lib.hid (by unfold stepG; rw [HCE.out, if_neg h42, if_neg h63, if_neg h91, if_neg h92])
      have HSB : Hid (Sl wr (.slice (some ⟨x, o + (k), none⟩) 1 (cap - (k))) [c]) := Lib.hid ⟨byt_of (fun z hz => by rw [List.mem_singleton.1 hz]; exact ⟨by omega, by omega⟩), by simp, Or.inr ⟨x, o + (k), cap - (k), rfl, by show 1 ≤ _; omega, by omega, fun i hi => by have h0 : i = 0 := (by simpa using hi); subst h0; simpa using hcd⟩⟩
      have hcv := conv_string HSB.out
      have HOF : Hid (Calls Tryd.prog 28 #[.string (ofBys [c])] wr fun e w' => e = .returned (.agg #[.int .u64 (sw (mem [c]) 0 : Nat), .int .u64 (sw (mem [c]) 1 : Nat), .int .u64 (sw (mem [c]) 2 : Nat), .int .u64 (sw (mem [c]) 3 : Nat)]) ∧ Below wr.heap.size wr w') := Lib.hid (by have := of_any (ofBys [c]) wr (by rw [ofBys_size]; simp); rw [bys_ofBys HSB.out.1] at this; exact this)
      have hof : (ofBys [c]).size = 1 := by rw [ofBys_size]; rfl
      generalize ofBys [c] = sb at *
      go_wp2_with fail
      refine HOF.out.mono ?_
      rintro e' w1 ⟨rfl, hb1'⟩
      have HB1 : Hid (Below w0.heap.size w0 w1) := Lib.hid (below_thn HI.out.bel (Nat.le_refl _) hb1')
      have HP1 : Hid (PatAt w0.heap.size b ps w1) := Lib.hid (HI.out.pat.next hb1')
      have hA := HADDH.out (.byt (mem [c])) w1 HB1.out HP1.out
      clear hb1' hcv
      go_wp2_with fail
      refine hA.out.mono ?_
      rintro e' w2 ⟨rfl, hp2, hb2⟩
      have HN2 : Hid (RdI cf w0 b l (k + 1) (ps ++ [.byt (mem [c])]) w2) := Lib.hid ⟨by have := (stepG_pos cf l k hltL).2; rw [HSTP.out] at this; exact this, HB1.out.trans hb2, hp2, by rw [List.append_assoc, List.singleton_append]; have := HG.out; rw [HSTP.out] at this; rw [← this]; exact HI.out.spl⟩
      clear hp2 hb2
      clear hA
      go_wp2
      go_roundw
      case rel => exact ⟨k + 1, ps ++ [.byt (mem [c])], by go_num, HN2.out⟩
      case measure => simp [intOf]; omega
    · have hke : k = l.length := by rw [← HN.out]; omega
      have HEN : Hid (ps = glP cf l) := Lib.hid (by have := HI.out.spl; rw [glN_end cf l k (by omega), List.append_nil] at this; exact this)
      go_wp2
      rw [Exit.noGoto_normal]
      go_end0
      exact ⟨rfl, by rw [← HEN.out]; exact HI.out.pat, HI.out.bel⟩
end Go.Proofs.YtoodpajbefffhaaDoor
