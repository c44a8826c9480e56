/- KRt: several texts in one (kmerge.py). -/
import Derived.Test.YtopnckfmdjhbjaaGreatDoorSeRtm
import Derived.Test.YtopnckfmdjhbjaaGreatDoorGlM3
import Derived.Test.YtopnckfmdjhbjaaGreatDoorLiSt2
/- The reference's Hex of one byte (gen_rhex.py). -/
namespace Go.Proofs.YtopnckfmdjhbjaaGreatDoor
open Go.RowKit

theorem hex_idx (r : Nat) (hr : r < 16) (X : World) : (Instr.index 9 (.string ⟨#[48, 49, 50, 51, 52, 53, 54, 55, 56, 57, 97, 98, 99, 100, 101, 102]⟩) (.int .u8 (r : Nat))).run Tryz.prog X = .ok (.int .u8 (dch r)) X := by
 rcases (by omega : r = 0 ∨ r = 1 ∨ r = 2 ∨ r = 3 ∨ r = 4 ∨ r = 5 ∨ r = 6 ∨ r = 7 ∨ r = 8 ∨ r = 9 ∨ r = 10 ∨ r = 11 ∨ r = 12 ∨ r = 13 ∨ r = 14 ∨ r = 15) with rfl | rfl | rfl | rfl | rfl | rfl | rfl | rfl | rfl | rfl | rfl | rfl | rfl | rfl | rfl | rfl
 all_goals kernel_rfl
theorem u8_low (b : Nat) (hb : b < 256) : bits .and .u8 (b : Int) 15 = ((b % 16 : Nat) : Int) := by
 have h : ∀ b : Fin 256, bits .and .u8 (b.val : Int) 15 = ((b.val % 16 : Nat) : Int) := by decide +kernel
 exact h ⟨b, hb⟩
/-- The state within the region: the two digits are laid (7), appended (8). -/
structure Hx1 (w W : World) (q r : Nat) (d7 d8 d9 : Bool) (u7 u8 u9 : Value) (X : World) : Prop where
 bel : Below w.heap.size w X
 lit : d7 = true → d8 = false → ∃ g, u7 = .slice (some ⟨g, 0, none⟩) 2 2 ∧ X.heap[g]? = some (.cells #[.int .u8 (dch q), .int .u8 (dch r)] 5 (0, 0))
 new : d8 = true → X.ownsRow w.heap.size 5 1 u8 2 [.int .u8 (dch q), .int .u8 (dch r)]
 same : d9 = true → u9 = u8

set_option maxRecDepth 100000 in
set_option maxHeartbeats 8000000 in
theorem rhex_any (b : Nat) (hb : b < 256) (w : World) :
  Calls Tryz.prog 49 #[.string (ofBys [(b : Int)])] w fun e w' => e = .returned (.string ⟨(hex2 b).toArray⟩) ∧ Below w.heap.size w w' := by
 obtain ⟨i0, hi, hz0, hz1, hz2⟩ := info_parts byte_row
 have hsz : (ofBys [(b : Int)]).size = 1 := by rw [ofBys_size]; rfl
 obtain ⟨cap, W1, hcv, hsl, hb1⟩ := conv_sl w (ofBys [(b : Int)]) (by omega)
 rw [bys_ofBys (byt_of fun c hc => by rw [List.mem_singleton.1 hc]; omega)] at hsl
 obtain ⟨_, _, ⟨h0, _⟩ | ⟨x, o, c', hv, hc1, hc2, hrow⟩⟩ := hsl
 ·cases h0
 simp only [Value.slice.injEq, Option.some.injEq, Addr.mk.injEq, and_true] at hv
 obtain ⟨⟨rfl, rfl⟩, hl1, rfl⟩ := hv
 have c0 : W1.cell? ⟨w.heap.size, 0, none⟩ = some (.int .u8 (b : Nat)) := by have := hrow 0 (by simp); simpa using this
 have HE : Hid ((⟨(hex2 b).toArray⟩ : ByteArray) = ofBys [dch (b / 16), dch (b % 16)]) := Lib.hid (by unfold hex2 hxd ofBys; rfl)
 have ha := u8_low b hb
 obtain ⟨q, hq⟩ : ∃ q, q = b / 16 := ⟨_, rfl⟩
 obtain ⟨r, hr⟩ : ∃ r, r = b % 16 := ⟨_, rfl⟩
 have hd : (b : Int) / 16 = (q : Int) := by omega
 rw [← hr] at ha
 rw [← hq, ← hr] at HE
 have hq16 : q < 16 := by omega
 have hr16 : r < 16 := by omega
 clear hq hr
 have h1 := hex_idx q hq16
 have h2 := hex_idx r hr16
 have HY : Hid (Byt [dch q, dch r]) := Lib.hid (byt_of fun c hc => by
  have a1 := dch_bd q hq16
  have a2 := dch_bd r hr16
  simp only [List.mem_cons, List.not_mem_nil, or_false] at hc
  rcases hc with rfl | rfl <;> omega)
 have HB1 := Lib.hid hb1
 rw [HE.out]
 clear hrow hb1 hc1 hc2
 generalize ofBys [(b : Int)] = sb at *
 go_enter Tryz.func49, Tryz.ntmps49
 go_wp2
 go_loopw [3, 9] (fun v i X => (i = .int .i64 0 ∧ v = .slice none 0 0 ∧ X = W1) ∨ (i = .int .i64 1 ∧ X.ownsRow w.heap.size 5 1 v 2 [.int .u8 (dch q), .int .u8 (dch r)] ∧ Below w.heap.size w X)) (fun _ i _ => 1 - (intOf i).toNat)
 case atStart => exact Or.inl ⟨rfl, rfl, rfl⟩
 case round =>
  rcases hrel with ⟨rfl, rfl, rfl⟩ | ⟨rfl, hown, hbel⟩
  ·go_wp2_with fail
   refine Reg2.wp_region_sto (fun L u X => Hx1 w wr q r (L 7) (L 8) (L 9) (u 7) (u 8) (u 9) X) (fun j => ([some (.slice none 0 0), some (.int .u8 (b : Nat)), some (.int .u8 (q : Nat)), some (.int .u8 (dch q)), some (.int .u8 (b : Nat)), some (.int .u8 (r : Nat)), some (.int .u8 (dch r)), none, none, none] : List (Option Value)).getD j none) (by kernel_rfl) (by kernel_rfl) (by kernel_rfl) (by kernel_rfl) ?rs0 ?rsE ?rsZ
   case rs0 => exact ⟨HB1.out.drew, fun h => (by cases h), fun h => (by cases h), fun h => (by cases h)⟩
   case rsE =>
    refine Reg2.EachG.plain rfl (fun L u T X hL hz hS hk K hK => ?_) ?_
    ·skip
     have g3 : T[3]? = some (.slice none 0 0) := hk.later 9 3 (by kernel_rfl) (hz 9 (by kernel_rfl)) rfl
     have hK := hK _ X hS (fun _ hx => Option.some.inj hx)
     clear hk hz hL
     go_simp
     exact hK
    refine Reg2.EachG.plain rfl (fun L u T X hL hz hS hk K hK => ?_) ?_
    ·skip
     have g5 : T[5]? = some (.int .u8 (b : Nat)) := hk.old 5 (by kernel_rfl) rfl
     have hK := hK _ X hS (fun _ hx => Option.some.inj hx)
     clear hk hz hL
     go_simp
     exact hK
    refine Reg2.EachG.plain rfl (fun L u T X hL hz hS hk K hK => ?_) ?_
    ·skip
     have g14 : T[14]? = some (.int .u8 (b : Nat)) := hk.val 1 14 (by kernel_rfl) (by kernel_rfl) rfl
     have hK := hK _ X hS (fun _ hx => Option.some.inj hx)
     clear hk hz hL
     go_simp
     exact hK
    refine Reg2.EachG.plain rfl (fun L u T X hL hz hS hk K hK => ?_) ?_
    ·skip
     have g15 : T[15]? = some (.int .u8 (q : Nat)) := hk.val 2 15 (by kernel_rfl) (by kernel_rfl) rfl
     have hK := hK _ X hS (fun _ hx => Option.some.inj hx)
     clear hk hz hL
     go_simp
     exact hK
    refine Reg2.EachG.plain rfl (fun L u T X hL hz hS hk K hK => ?_) ?_
    ·skip
     have g5 : T[5]? = some (.int .u8 (b : Nat)) := hk.old 5 (by kernel_rfl) rfl
     have hK := hK _ X hS (fun _ hx => Option.some.inj hx)
     clear hk hz hL
     go_simp
     exact hK
    refine Reg2.EachG.plain rfl (fun L u T X hL hz hS hk K hK => ?_) ?_
    ·skip
     have g17 : T[17]? = some (.int .u8 (b : Nat)) := hk.val 4 17 (by kernel_rfl) (by kernel_rfl) rfl
     have hK := hK _ X hS (fun _ hx => Option.some.inj hx)
     clear hk hz hL
     go_simp
     exact hK
    refine Reg2.EachG.plain rfl (fun L u T X hL hz hS hk K hK => ?_) ?_
    ·skip
     have g18 : T[18]? = some (.int .u8 (r : Nat)) := hk.val 5 18 (by kernel_rfl) (by kernel_rfl) rfl
     have hK := hK _ X hS (fun _ hx => Option.some.inj hx)
     clear hk hz hL
     go_simp
     exact hK
    refine Reg2.EachG.plain rfl (fun L u T X hL hz hS hk K hK => ?_) ?_
    ·skip
     have g16 : T[16]? = some (.int .u8 (dch q)) := hk.val 3 16 (by kernel_rfl) (by kernel_rfl) rfl
     have g19 : T[19]? = some (.int .u8 (dch r)) := hk.val 6 19 (by kernel_rfl) (by kernel_rfl) rfl
     have hd8 : L 8 = false := hz 8 (by kernel_rfl)
     have hK := hK (.slice (some ⟨X.heap.size, 0, none⟩) 2 2) (X.alloc (.cells #[.int .u8 (dch q), .int .u8 (dch r)] 5)) ⟨hS.bel.alloc hS.bel.size _, fun _ _ => ⟨_, rfl, alloc_last X _⟩, fun h => (by rw [Reg2.upd_ne _ _ (by decide), hd8] at h; cases h), hS.same⟩ (fun _ hx => by cases hx)
     clear hk hz hL hd8 hS
     go_simp
     exact hK
    refine Reg2.EachG.plain rfl (fun L u T X hL hz hS hk K hK => ?_) ?_
    ·skip
     have g13 : T[13]? = some (.slice none 0 0) := hk.val 0 13 (by kernel_rfl) (by kernel_rfl) rfl
     obtain ⟨g20, l20⟩ := hk.any 7 20 (by kernel_rfl) (by kernel_rfl)
     obtain ⟨g, e7, hg⟩ := hS.lit l20 hL
     rw [e7] at g20
     have hcl : ∀ j y, [Value.int .u8 (dch q), .int .u8 (dch r)][j]? = some y → X.cell? ((⟨g, 0, none⟩ : Addr).add j) = some y := news_of_blk (cs := [Value.int .u8 (dch q), .int .u8 (dch r)]) hg
     refine wp_append_own X (.tmp 13) (.tmp 20) 22 rfl w.heap.size 5 i0 (.int .u8 0) 1 1 Tryz.underlying22 hi hz0 hz1 hz2 rfl (by decide) (.slice none 0 0) 0 [] (by simp [Act.eval, g13]) (World.ownsRow_nil _ _ _ _) ⟨g, 0, none⟩ 2 2 [.int .u8 (dch q), .int .u8 (dch r)] (by simp [Act.eval, g20]) rfl hcl (by intro y hy; simp at hy; rcases hy with rfl | rfl <;> rfl) (by decide) (by decide) hS.bel.size ?_
     intro v' w' hown hgr _
     exact hK v' w' ⟨hS.bel.grown hgr hS.bel.size (fun k hk => by cases hk), fun _ h => (by rw [Reg2.upd_same] at h; cases h), fun _ => (by rw [Reg2.upd_same]; exact hown), fun h => (by rw [Reg2.upd_ne _ _ (by decide), hz 9 (by kernel_rfl)] at h; cases h)⟩ (fun _ hx => by cases hx)
    refine Reg2.EachG.plain rfl (fun L u T X hL hz hS hk K hK => ?_) ?_
    ·skip
     obtain ⟨g21, l21⟩ := hk.any 8 21 (by kernel_rfl) (by kernel_rfl)
     have hK := hK (u 8) X ⟨hS.bel, hS.lit, hS.new, fun _ => (by rw [Reg2.upd_same, Reg2.upd_ne _ _ (by decide)])⟩ (fun _ hx => by cases hx)
     clear hk hz hL
     go_simp
     exact hK
    exact Reg2.EachG.nil
   case rsZ =>
    intro L u w1 hL hS hI
    have e0 : u 0 = .slice none 0 0 := hI 0 (by decide) _ rfl
    have e1 : u 1 = .int .u8 (b : Nat) := hI 1 (by decide) _ rfl
    have e2 : u 2 = .int .u8 (q : Nat) := hI 2 (by decide) _ rfl
    have e3 : u 3 = .int .u8 (dch q) := hI 3 (by decide) _ rfl
    have e4 : u 4 = .int .u8 (b : Nat) := hI 4 (by decide) _ rfl
    have e5 : u 5 = .int .u8 (r : Nat) := hI 5 (by decide) _ rfl
    have e6 : u 6 = .int .u8 (dch r) := hI 6 (by decide) _ rfl
    clear hI
    simp only [Reg2.putAll, Act.put, List.setIfInBounds_toArray, List.set_cons_succ, List.set_cons_zero, Nat.zero_add, Nat.reduceAdd, e0, e1, e2, e3, e4, e5, e6]
    clear e0 e1 e2 e3 e4 e5 e6
    have hn := hS.new (hL 8 (by decide))
    have hbe := hS.bel
    have he := hS.same (hL 9 (by decide))
    rw [he]
    have HE2 := Lib.hid (And.intro hn hbe)
    clear hS hL hn hbe he
    generalize u 8 = y8 at *
    generalize u 7 = y7 at *
    go_wp2
    exact ⟨Or.inr ⟨rfl, HE2.out.1, HE2.out.2⟩, by simp [intOf]⟩
  ·obtain ⟨a0, cap0, rfl⟩ := own_shapeK hown
   have HSL := Lib.hid (slOwnedM (L := [dch q, dch r]) hown HY.out (by simp))
   have hcv2 := conv_string HSL.out
   have HBE := Lib.hid hbel
   clear hown hbel
   go_wp2
   go_ret
   exact ⟨rfl, HBE.out⟩
end Go.Proofs.YtopnckfmdjhbjaaGreatDoor
/- The reference's Text (gen_rtext.py). -/
namespace Go.Proofs.YtopnckfmdjhbjaaGreatDoor
open Go.RowKit

/-- The outer loop's state. -/
structure RtI (w : World) (p : Nat → Bool) (lv : Value) (k : Nat) (dn : List (List UInt8)) (X : World) : Prop where
 hk : k ≤ 256
 spl : dn ++ runsN p 257 k = runs p
 non : idx p k = 0 ↔ dn = []
 bel : Below w.heap.size w X
 sl : Sl X lv (byL p 256)
def outS (dn : List (List UInt8)) : ByteArray := ⟨(91 :: Lib.join dn [44]).toArray⟩
theorem outS_size {p : Nat → Bool} {k : Nat} {dn : List (List UInt8)} (h : dn ++ runsN p 257 k = runs p) : (outS dn).size ≤ 1537 := by
 have hl : dn.length ≤ 256 := by have h1 := congrArg List.length h; rw [List.length_append] at h1; have := (runs_len p).1; omega
 have h5 : ∀ x ∈ dn, x.length ≤ 5 := fun x hx => by
  have : x ∈ runs p := by rw [← h]; exact List.mem_append_left _ hx
  exact (runsN_len p 257 0 (by omega)).2 x this
 have h3 := lens_le dn 5 h5
 have : (Lib.join dn [44]).length ≤ 1536 := by
  cases dn with
  | nil => rw [Lib.join_nil]; simp
  | cons x r =>
   rw [Lib.join_length]
   simp only [List.length_cons, List.length_nil] at *
   omega
 unfold outS
 show (List.toArray _).size ≤ _
 simp
 omega
theorem ba_app (a b : List UInt8) : (⟨a.toArray⟩ : ByteArray) ++ ⟨b.toArray⟩ = ⟨(a ++ b).toArray⟩ := by apply ByteArray.ext; simp
theorem out_first (lo e : Nat) : (lo + 1 < e → outS [] ++ ⟨(hex2 lo).toArray⟩ ++ ((⟨#[45]⟩ : ByteArray) ++ ⟨(hex2 (e - 1)).toArray⟩) = outS [runT lo e]) ∧ (¬ lo + 1 < e → outS [] ++ ⟨(hex2 lo).toArray⟩ = outS [runT lo e]) := by
 refine ⟨fun h => ?_, fun h => ?_⟩
 ·have e45 : (⟨#[45]⟩ : ByteArray) = ⟨[45].toArray⟩ := rfl
  unfold outS runT
  rw [if_pos h, Lib.join_one, Lib.join_nil, e45, ba_app, ba_app, ba_app]
  simp
 ·unfold outS runT
  rw [if_neg h, Lib.join_one, Lib.join_nil, ba_app]
  simp
theorem out_next (dn : List (List UInt8)) (hd : dn ≠ []) (lo e : Nat) : (lo + 1 < e → outS dn ++ ⟨#[44]⟩ ++ ⟨(hex2 lo).toArray⟩ ++ ((⟨#[45]⟩ : ByteArray) ++ ⟨(hex2 (e - 1)).toArray⟩) = outS (dn ++ [runT lo e])) ∧ (¬ lo + 1 < e → outS dn ++ ⟨#[44]⟩ ++ ⟨(hex2 lo).toArray⟩ = outS (dn ++ [runT lo e])) := by
 have e45 : (⟨#[45]⟩ : ByteArray) = ⟨[45].toArray⟩ := rfl
 have e44 : (⟨#[44]⟩ : ByteArray) = ⟨[44].toArray⟩ := rfl
 refine ⟨fun h => ?_, fun h => ?_⟩
 ·unfold outS
  rw [join_snoc, if_neg hd]
  unfold runT
  rw [if_pos h, e44, e45, ba_app, ba_app, ba_app, ba_app]
  simp
 ·unfold outS
  rw [join_snoc, if_neg hd]
  unfold runT
  rw [if_neg h, e44, ba_app, ba_app]
  simp
theorem sl_one {X : World} {x o cap I : Nat} {c : Nat} (hc : X.cell? ⟨x, o + I, none⟩ = some (.int .u8 (c : Nat))) (hc2 : c < 256) (hI : I < cap) (hcm : cap ≤ 9223372036854775807) : Sl X (.slice (some ⟨x, o + I, none⟩) 1 (cap - I)) [(c : Int)] :=
 ⟨byt_of (fun z hz => by rw [List.mem_singleton.1 hz]; omega), by simp, Or.inr ⟨x, o + I, cap - I, rfl, by show 1 ≤ _; omega, by omega, fun i hi => by have h0 : i = 0 := (by simpa using hi); subst h0; simpa using hc⟩⟩

set_option maxRecDepth 100000 in
set_option maxHeartbeats 16000000 in
theorem rtext_any (p : Nat → Bool) (w : World) :
  Calls Tryz.prog 30 #[SV p] w fun e w' => e = .returned (.string (textS p)) ∧ Below w.heap.size w w' := by
 have HBY : ∀ (X : World), Hid (Calls Tryz.prog 34 #[.agg #[.int .u64 (sw p 0 : Nat), .int .u64 (sw p 1 : Nat), .int .u64 (sw p 2 : Nat), .int .u64 (sw p 3 : Nat)]] X fun e w' => ∃ v, e = .returned v ∧ w'.ownsRow X.heap.size 5 1 v (byL p 256).length ((byL p 256).map (Value.int .u8)) ∧ Below X.heap.size X w') := fun X => Lib.hid (rbytes_any p X)
 have HRH : ∀ (b : Nat) (X : World), b < 256 → Hid (Calls Tryz.prog 49 #[.string (ofBys [(b : Int)])] X fun e w' => e = .returned (.string ⟨(hex2 b).toArray⟩) ∧ Below X.heap.size X w') := fun b X hb => Lib.hid (rhex_any b hb X)
 have HRHH := Lib.hid HRH
 clear HRH
 unfold SV
 go_enter Tryz.func30, Tryz.ntmps30
 go_wp2_with fail
 refine (HBY _).out.mono ?_
 rintro e w1 ⟨lv, rfl, hown, hb1⟩
 have hbl := byL_len p 256
 have hB1 := ((Below.refl w.heap.size w).alloc (Nat.le_refl _) (.cells #[.int .u64 (sw p 0 : Nat), .int .u64 (sw p 1 : Nat), .int .u64 (sw p 2 : Nat), .int .u64 (sw p 3 : Nat)] 53)).trans (hb1.mono (by simp))
 have hs1 := slOwnedM hown (byL_byt p 256 (Nat.le_refl _)) (by omega)
 have HI0 : Hid (RtI w p lv 0 [] w1) := Lib.hid ⟨by omega, rfl, ⟨fun _ => rfl, fun _ => rfl⟩, hB1, hs1⟩
 obtain ⟨va, vcap, hlv⟩ := own_shapeK hown
 obtain ⟨n, hn⟩ : ∃ n, n = idx p 256 := ⟨_, rfl⟩
 have HN := Lib.hid hn
 have hn2 : n = (byL p 256).length := hn
 rw [← hn2] at hlv hbl
 clear hn hn2 hs1 hB1 hb1 hown
 subst hlv
 go_wp2_with fail
 go_loopw [4, 5] (fun so i X => ∃ k dn, so = .string (outS dn) ∧ i = .int .i64 (idx p k : Nat) ∧ RtI w p (.slice va n vcap) k dn X) (fun _ i _ => n - (intOf i).toNat)
 case atStart => exact ⟨0, [], rfl, rfl, HI0.out⟩
 case round =>
  obtain ⟨k, dn, rfl, rfl, hI⟩ := hrel
  have hos := outS_size hI.spl
  have hidx := idx_le p k 256 hI.hk
  have hmo := idx_more p k hI.hk
  rw [← HN.out] at hidx hmo
  have HI := Lib.hid hI
  clear hI
  by_cases hlt : idx p k < n
  ·have hlo := hmo.1 hlt
   have hge := fst_ge p k
   have hgt := end_gt p _ hlo (fst_hit p k HI.out.hk hlo)
   have hle := fst_le (notP p) (fst p k) (by omega)
   have HIF : Hid (idx p (fst p k) = idx p k) := Lib.hid (idx_fst p k)
   have HST : Hid (runsN p 257 k = runT (fst p k) (fst (notP p) (fst p k)) :: runsN p 257 (fst (notP p) (fst p k))) := Lib.hid (runsN_step p k HI.out.hk hlo)
   have HON := Lib.hid (fun j => run_on p (fst p k) j hlo)
   have HOF := Lib.hid (fun j => run_off p (fst p k) j hlo)
   have HAT := Lib.hid (fun j => run_at p (fst p k) j hlo)
   have HEN : Hid (idx p (fst (notP p) (fst p k)) = idx p (fst p k) + (fst (notP p) (fst p k) - fst p k)) := Lib.hid (idx_end p (fst p k) hlo)
   rw [HIF.out, ← HN.out] at HON HOF
   rw [HIF.out] at HAT HEN
   have HO1 := Lib.hid (out_first (fst p k) (fst (notP p) (fst p k)))
   have HO2 := Lib.hid (fun hd => out_next dn hd (fst p k) (fst (notP p) (fst p k)))
   have hnon := HI.out.non
   generalize fst (notP p) (fst p k) = e at *
   generalize fst p k = lo at *
   generalize idx p k = I at *
   obtain ⟨_, _, ⟨h0, _⟩ | ⟨x, o, c', hv, hc1, hc2, hrow⟩⟩ := HI.out.sl
   ·exfalso; have := congrArg List.length h0; have h2 : n = (byL p 256).length := HN.out; rw [← h2] at this; simp at this; omega
   simp only [Value.slice.injEq] at hv
   obtain ⟨rfl, hnl, rfl⟩ := hv
   have HC : ∀ j (c : Nat), (byL p 256)[j]? = some (c : Int) → wr.cell? ⟨x, o + j, none⟩ = some (.int .u8 (c : Nat)) := fun j c hj => by
    have hjl := (List.getElem?_eq_some_iff.1 hj).1
    rw [hrow j hjl, List.getD_eq_getElem?_getD, hj]
    rfl
   have HCH := Lib.hid HC
   rw [← hnl] at hc1
   clear HC hrow hnl hmo
   generalize wr = W0 at *
   go_wp2_with fail
   go_loopw [6] (fun kk X => ∃ (q0 : Nat) (j : Nat), kk = .int .i64 (q0 : Nat) ∧ Hid (q0 = I + j) ∧ lo + j < e ∧ q0 < n ∧ Hid (Below W0.heap.size W0 X)) (fun kk _ => n - (intOf kk).toNat)
   case atStart => exact ⟨I, 0, rfl, Lib.hid rfl, by omega, hlt, Lib.hid (Below.refl _ _)⟩
   case round =>
    obtain ⟨q0, j, rfl, HKJ, hje, hKn, HWX⟩ := hrel
    have hIK : I ≤ q0 := by rw [HKJ.out]; omega
    have HCX : Hid (∀ (z : Nat) (y : Value), W0.cell? ⟨x, o + z, none⟩ = some y → wr.cell? ⟨x, o + z, none⟩ = some y) := Lib.hid fun z y hy => (HWX.out.cell (p := ⟨x, o + z, none⟩) (World.block_lt_of_cell? _ _ hy)).trans hy
    have hc0 : wr.cell? ⟨x, o + q0, none⟩ = some (.int .u8 ((lo + j : Nat) : Int)) := HCX.out _ _ (HCH.out q0 (lo + j) (by rw [HKJ.out]; exact (HAT.out j hje).1))
    have hcI : wr.cell? ⟨x, o + I, none⟩ = some (.int .u8 (lo : Nat)) := HCX.out _ _ (HCH.out I lo (by have := (HAT.out 0 (by omega)).1; simpa using this))
    have HCI := Lib.hid hcI
    have HC0 := Lib.hid hc0
    have hw1 : IntKind.i64.wrap ((q0 : Int) + 1) = (q0 : Int) + 1 := by rw [IntKind.wrap_i64]; omega
    clear hcI
    by_cases hon : lo + j + 1 < e
    ·have hno := HON.out j hon
     have hcn : wr.cell? ⟨x, o + (q0 + 1), none⟩ = some (.int .u8 ((lo + j + 1 : Nat) : Int)) := HCX.out _ _ (HCH.out (q0 + 1) (lo + j + 1) (by rw [HKJ.out, Nat.add_assoc I j 1, hno.1]; congr 1))
     have hn2 : (q0 : Int) + 1 < (n : Int) := by have := hno.2; have h2 := HKJ.out; omega
     have hd256 : lo + j + 1 < 256 := by omega
     obtain ⟨d0, hd0⟩ : ∃ d0, d0 = lo + j := ⟨_, rfl⟩
     obtain ⟨d1, hd1⟩ : ∃ d1, d1 = lo + j + 1 := ⟨_, rfl⟩
     obtain ⟨d0s, hd0s⟩ : ∃ d0s : Int, d0s = IntKind.u8.wrap ((d0 : Int) + 1) := ⟨_, rfl⟩
     have heq : ((d1 : Int) == d0s) = true := by rw [hd0s, IntKind.wrap_u8]; simp; omega
     rw [← hd0] at hc0
     rw [← hd1] at hcn
     have hdw : IntKind.u8.wrap ((d0 : Int) + 1) = d0s := hd0s.symm
     have hdl : d0 < 255 := by omega
     clear hno hd0 hd1 hd0s
     go_wp2_with fail
     refine Reg.wp_region_vals (fun X => Below wr.heap.size wr X) (fun j => ([some (.int .i64 (q0 : Nat)), some (.int .i64 ((q0 : Int) + 1)), some (.slice (some ⟨x, o, none⟩) n vcap), some (.int .i64 (n : Nat)), some (.bool true), some (.bool true), some (.slice (some ⟨x, o, none⟩) n vcap), some (.int .i64 (q0 : Nat)), some (.int .i64 ((q0 : Int) + 1)), some (.pointer (some ⟨x, o + (q0 + 1), none⟩)), some (.int .u8 (d1 : Nat)), some (.slice (some ⟨x, o, none⟩) n vcap), some (.int .i64 (q0 : Nat)), some (.pointer (some ⟨x, o + q0, none⟩)), some (.int .u8 (d0 : Nat)), some (.int .u8 (d0s : Int)), some (.bool true), some (.bool true)] : List (Option Value)).getD j none) (fun _ _ _ => True) (by kernel_rfl) (by kernel_rfl) (by kernel_rfl) (by kernel_rfl) ?rs0 ?rsE ?rsZ
     case rs0 => exact (Below.refl _ _).drew
     case rsE =>
      refine Reg.EachV.plain rfl (fun T X hS hk K hK => ?_) ?_
      ·skip
       have g6 : T[6]? = some (.int .i64 (q0 : Nat)) := hk.old 6 (by kernel_rfl) rfl
       have hK := hK _ X hS (Reg.Is.of_val rfl) (fun _ _ _ h => h)
       clear hk
       go_simp
       exact hK
      refine Reg.EachV.plain rfl (fun T X hS hk K hK => ?_) ?_
      ·skip
       have g16 : T[16]? = some (.int .i64 (q0 : Nat)) := hk.val 0 16 (by kernel_rfl) (by kernel_rfl) rfl
       have hK := hK _ X hS (Reg.Is.of_val rfl) (fun _ _ _ h => h)
       clear hk
       go_simp
       exact hK
      refine Reg.EachV.plain rfl (fun T X hS hk K hK => ?_) ?_
      ·skip
       have g3 : T[3]? = some (.slice (some ⟨x, o, none⟩) n vcap) := hk.old 3 (by kernel_rfl) rfl
       have hK := hK _ X hS (Reg.Is.of_val rfl) (fun _ _ _ h => h)
       clear hk
       go_simp
       exact hK
      refine Reg.EachV.plain rfl (fun T X hS hk K hK => ?_) ?_
      ·skip
       have g18 : T[18]? = some (.slice (some ⟨x, o, none⟩) n vcap) := hk.val 2 18 (by kernel_rfl) (by kernel_rfl) rfl
       have hK := hK _ X hS (Reg.Is.of_val rfl) (fun _ _ _ h => h)
       clear hk
       go_simp
       exact hK
      refine Reg.EachV.plain rfl (fun T X hS hk K hK => ?_) ?_
      ·skip
       have g17 : T[17]? = some (.int .i64 ((q0 : Int) + 1)) := hk.val 1 17 (by kernel_rfl) (by kernel_rfl) rfl
       have g19 : T[19]? = some (.int .i64 (n : Nat)) := hk.val 3 19 (by kernel_rfl) (by kernel_rfl) rfl
       have hK := hK _ X hS (Reg.Is.of_val rfl) (fun _ _ _ h => h)
       clear hk
       go_simp
       exact hK
      refine Reg.EachV.plain rfl (fun T X hS hk K hK => ?_) ?_
      ·skip
       have g20 : T[20]? = some (.bool true) := hk.val 4 20 (by kernel_rfl) (by kernel_rfl) rfl
       have hK := hK _ X hS (Reg.Is.of_val rfl) (fun _ _ _ h => h)
       clear hk
       go_simp
       exact hK
      refine Reg.EachV.guarded 5 21 true rfl (by kernel_rfl) (by kernel_rfl) rfl (fun T X hS hk K hK => ?_) ?_
      ·skip
       have g3 : T[3]? = some (.slice (some ⟨x, o, none⟩) n vcap) := hk.old 3 (by kernel_rfl) rfl
       have hK := hK _ X hS (Reg.Is.of_val rfl) (fun _ _ _ h => h)
       clear hk
       go_simp
       exact hK
      refine Reg.EachV.guarded 5 21 true rfl (by kernel_rfl) (by kernel_rfl) rfl (fun T X hS hk K hK => ?_) ?_
      ·skip
       have g6 : T[6]? = some (.int .i64 (q0 : Nat)) := hk.old 6 (by kernel_rfl) rfl
       have hK := hK _ X hS (Reg.Is.of_val rfl) (fun _ _ _ h => h)
       clear hk
       go_simp
       exact hK
      refine Reg.EachV.guarded 5 21 true rfl (by kernel_rfl) (by kernel_rfl) rfl (fun T X hS hk K hK => ?_) ?_
      ·skip
       have g23 : T[23]? = some (.int .i64 (q0 : Nat)) := hk.val 7 23 (by kernel_rfl) (by kernel_rfl) rfl
       have hK := hK _ X hS (Reg.Is.of_val rfl) (fun _ _ _ h => h)
       clear hk
       go_simp
       exact hK
      refine Reg.EachV.guarded 5 21 true rfl (by kernel_rfl) (by kernel_rfl) rfl (fun T X hS hk K hK => ?_) ?_
      ·skip
       have g22 : T[22]? = some (.slice (some ⟨x, o, none⟩) n vcap) := hk.val 6 22 (by kernel_rfl) (by kernel_rfl) rfl
       have g24 : T[24]? = some (.int .i64 ((q0 : Int) + 1)) := hk.val 8 24 (by kernel_rfl) (by kernel_rfl) rfl
       have hK := hK _ X hS (Reg.Is.of_val rfl) (fun _ _ _ h => h)
       clear hk
       go_simp
       exact hK
      refine Reg.EachV.guarded 5 21 true rfl (by kernel_rfl) (by kernel_rfl) rfl (fun T X hS hk K hK => ?_) ?_
      ·skip
       have g25 : T[25]? = some (.pointer (some ⟨x, o + (q0 + 1), none⟩)) := hk.val 9 25 (by kernel_rfl) (by kernel_rfl) rfl
       have hcl := (hS.cell (p := ⟨x, o + (q0 + 1), none⟩) (World.block_lt_of_cell? _ _ hcn)).trans hcn
       have hK := hK _ X hS (Reg.Is.of_val rfl) (fun _ _ _ h => h)
       clear hk
       go_simp
       exact hK
      refine Reg.EachV.guarded 5 21 true rfl (by kernel_rfl) (by kernel_rfl) rfl (fun T X hS hk K hK => ?_) ?_
      ·skip
       have g3 : T[3]? = some (.slice (some ⟨x, o, none⟩) n vcap) := hk.old 3 (by kernel_rfl) rfl
       have hK := hK _ X hS (Reg.Is.of_val rfl) (fun _ _ _ h => h)
       clear hk
       go_simp
       exact hK
      refine Reg.EachV.guarded 5 21 true rfl (by kernel_rfl) (by kernel_rfl) rfl (fun T X hS hk K hK => ?_) ?_
      ·skip
       have g6 : T[6]? = some (.int .i64 (q0 : Nat)) := hk.old 6 (by kernel_rfl) rfl
       have hK := hK _ X hS (Reg.Is.of_val rfl) (fun _ _ _ h => h)
       clear hk
       go_simp
       exact hK
      refine Reg.EachV.guarded 5 21 true rfl (by kernel_rfl) (by kernel_rfl) rfl (fun T X hS hk K hK => ?_) ?_
      ·skip
       have g27 : T[27]? = some (.slice (some ⟨x, o, none⟩) n vcap) := hk.val 11 27 (by kernel_rfl) (by kernel_rfl) rfl
       have g28 : T[28]? = some (.int .i64 (q0 : Nat)) := hk.val 12 28 (by kernel_rfl) (by kernel_rfl) rfl
       have hK := hK _ X hS (Reg.Is.of_val rfl) (fun _ _ _ h => h)
       clear hk
       go_simp
       exact hK
      refine Reg.EachV.guarded 5 21 true rfl (by kernel_rfl) (by kernel_rfl) rfl (fun T X hS hk K hK => ?_) ?_
      ·skip
       have g29 : T[29]? = some (.pointer (some ⟨x, o + q0, none⟩)) := hk.val 13 29 (by kernel_rfl) (by kernel_rfl) rfl
       have hcl := (hS.cell (p := ⟨x, o + q0, none⟩) (World.block_lt_of_cell? _ _ hc0)).trans hc0
       have hK := hK _ X hS (Reg.Is.of_val rfl) (fun _ _ _ h => h)
       clear hk
       go_simp
       exact hK
      refine Reg.EachV.guarded 5 21 true rfl (by kernel_rfl) (by kernel_rfl) rfl (fun T X hS hk K hK => ?_) ?_
      ·skip
       have g30 : T[30]? = some (.int .u8 (d0 : Nat)) := hk.val 14 30 (by kernel_rfl) (by kernel_rfl) rfl
       have hK := hK _ X hS (Reg.Is.of_val rfl) (fun _ _ _ h => h)
       clear hk
       go_simp
       exact hK
      refine Reg.EachV.guarded 5 21 true rfl (by kernel_rfl) (by kernel_rfl) rfl (fun T X hS hk K hK => ?_) ?_
      ·skip
       have g26 : T[26]? = some (.int .u8 (d1 : Nat)) := hk.val 10 26 (by kernel_rfl) (by kernel_rfl) rfl
       have g31 : T[31]? = some (.int .u8 (d0s : Int)) := hk.val 15 31 (by kernel_rfl) (by kernel_rfl) rfl
       have hK := hK _ X hS (Reg.Is.of_val rfl) (fun _ _ _ h => h)
       clear hk
       go_simp
       exact hK
      refine Reg.EachV.plain rfl (fun T X hS hk K hK => ?_) ?_
      ·skip
       have g21 : T[21]? = some (.bool true) := hk.val 5 21 (by kernel_rfl) (by kernel_rfl) rfl
       have g32 : T[32]? = some (.bool true) := hk.val 16 32 (by kernel_rfl) (by kernel_rfl) rfl
       have hK := hK _ X hS (Reg.Is.of_val rfl) (fun _ _ _ h => h)
       clear hk
       go_simp
       exact hK
      exact Reg.EachV.nil
     case rsZ =>
      intro u w2 hS hI
      have e0 : u 0 = .int .i64 (q0 : Nat) := (hI 0 (by decide)).val rfl
      have e1 : u 1 = .int .i64 ((q0 : Int) + 1) := (hI 1 (by decide)).val rfl
      have e2 : u 2 = .slice (some ⟨x, o, none⟩) n vcap := (hI 2 (by decide)).val rfl
      have e3 : u 3 = .int .i64 (n : Nat) := (hI 3 (by decide)).val rfl
      have e4 : u 4 = .bool true := (hI 4 (by decide)).val rfl
      have e5 : u 5 = .bool true := (hI 5 (by decide)).val rfl
      have e6 : u 6 = .slice (some ⟨x, o, none⟩) n vcap := (hI 6 (by decide)).val rfl
      have e7 : u 7 = .int .i64 (q0 : Nat) := (hI 7 (by decide)).val rfl
      have e8 : u 8 = .int .i64 ((q0 : Int) + 1) := (hI 8 (by decide)).val rfl
      have e9 : u 9 = .pointer (some ⟨x, o + (q0 + 1), none⟩) := (hI 9 (by decide)).val rfl
      have e10 : u 10 = .int .u8 (d1 : Nat) := (hI 10 (by decide)).val rfl
      have e11 : u 11 = .slice (some ⟨x, o, none⟩) n vcap := (hI 11 (by decide)).val rfl
      have e12 : u 12 = .int .i64 (q0 : Nat) := (hI 12 (by decide)).val rfl
      have e13 : u 13 = .pointer (some ⟨x, o + q0, none⟩) := (hI 13 (by decide)).val rfl
      have e14 : u 14 = .int .u8 (d0 : Nat) := (hI 14 (by decide)).val rfl
      have e15 : u 15 = .int .u8 (d0s : Int) := (hI 15 (by decide)).val rfl
      have e16 : u 16 = .bool true := (hI 16 (by decide)).val rfl
      have e17 : u 17 = .bool true := (hI 17 (by decide)).val rfl
      clear hI
      simp only [Reg.putAll, Act.put, List.setIfInBounds_toArray, List.set_cons_succ, List.set_cons_zero, Nat.zero_add, Nat.reduceAdd, e0, e1, e2, e3, e4, e5, e6, e7, e8, e9, e10, e11, e12, e13, e14, e15, e16, e17]
      clear e0 e1 e2 e3 e4 e5 e6 e7 e8 e9 e10 e11 e12 e13 e14 e15 e16 e17
      have HW2 := Lib.hid (below_thn HWX.out (Nat.le_refl _) hS)
      clear hS
      go_wp2
      exact ⟨⟨q0 + 1, j + 1, by go_num, Lib.hid (by rw [HKJ.out]; omega), by omega, by omega, HW2⟩, by simp [intOf]; omega⟩
    ·have hje1 : lo + j + 1 = e := by omega
     have hfin := HOF.out j hje1
     by_cases hn2 : (q0 : Int) + 1 < (n : Int)
     ·rcases hfin with hfin | ⟨d1, hd1, hd1l, hd1n, hd1g⟩
      ·exfalso; have h2 := HKJ.out; omega
      have hcn : wr.cell? ⟨x, o + (q0 + 1), none⟩ = some (.int .u8 (d1 : Nat)) := HCX.out _ _ (HCH.out (q0 + 1) d1 (by rw [HKJ.out, Nat.add_assoc I j 1]; exact hd1l))
      obtain ⟨d0, hd0⟩ : ∃ d0, d0 = lo + j := ⟨_, rfl⟩
      obtain ⟨d0s, hd0s⟩ : ∃ d0s : Int, d0s = IntKind.u8.wrap ((d0 : Int) + 1) := ⟨_, rfl⟩
      have heq : ((d1 : Int) == d0s) = false := by rw [hd0s, IntKind.wrap_u8]; simp; omega
      rw [← hd0] at hc0
      have hdw : IntKind.u8.wrap ((d0 : Int) + 1) = d0s := hd0s.symm
      clear hd0 hd0s hd1l
      go_wp2_with fail
      refine Reg.wp_region_vals (fun X => Below wr.heap.size wr X) (fun j => ([some (.int .i64 (q0 : Nat)), some (.int .i64 ((q0 : Int) + 1)), some (.slice (some ⟨x, o, none⟩) n vcap), some (.int .i64 (n : Nat)), some (.bool true), some (.bool true), some (.slice (some ⟨x, o, none⟩) n vcap), some (.int .i64 (q0 : Nat)), some (.int .i64 ((q0 : Int) + 1)), some (.pointer (some ⟨x, o + (q0 + 1), none⟩)), some (.int .u8 (d1 : Nat)), some (.slice (some ⟨x, o, none⟩) n vcap), some (.int .i64 (q0 : Nat)), some (.pointer (some ⟨x, o + q0, none⟩)), some (.int .u8 (d0 : Nat)), some (.int .u8 (d0s : Int)), some (.bool false), some (.bool false)] : List (Option Value)).getD j none) (fun _ _ _ => True) (by kernel_rfl) (by kernel_rfl) (by kernel_rfl) (by kernel_rfl) ?rs0 ?rsE ?rsZ
      case rs0 => exact (Below.refl _ _).drew
      case rsE =>
       refine Reg.EachV.plain rfl (fun T X hS hk K hK => ?_) ?_
       ·skip
        have g6 : T[6]? = some (.int .i64 (q0 : Nat)) := hk.old 6 (by kernel_rfl) rfl
        have hK := hK _ X hS (Reg.Is.of_val rfl) (fun _ _ _ h => h)
        clear hk
        go_simp
        exact hK
       refine Reg.EachV.plain rfl (fun T X hS hk K hK => ?_) ?_
       ·skip
        have g16 : T[16]? = some (.int .i64 (q0 : Nat)) := hk.val 0 16 (by kernel_rfl) (by kernel_rfl) rfl
        have hK := hK _ X hS (Reg.Is.of_val rfl) (fun _ _ _ h => h)
        clear hk
        go_simp
        exact hK
       refine Reg.EachV.plain rfl (fun T X hS hk K hK => ?_) ?_
       ·skip
        have g3 : T[3]? = some (.slice (some ⟨x, o, none⟩) n vcap) := hk.old 3 (by kernel_rfl) rfl
        have hK := hK _ X hS (Reg.Is.of_val rfl) (fun _ _ _ h => h)
        clear hk
        go_simp
        exact hK
       refine Reg.EachV.plain rfl (fun T X hS hk K hK => ?_) ?_
       ·skip
        have g18 : T[18]? = some (.slice (some ⟨x, o, none⟩) n vcap) := hk.val 2 18 (by kernel_rfl) (by kernel_rfl) rfl
        have hK := hK _ X hS (Reg.Is.of_val rfl) (fun _ _ _ h => h)
        clear hk
        go_simp
        exact hK
       refine Reg.EachV.plain rfl (fun T X hS hk K hK => ?_) ?_
       ·skip
        have g17 : T[17]? = some (.int .i64 ((q0 : Int) + 1)) := hk.val 1 17 (by kernel_rfl) (by kernel_rfl) rfl
        have g19 : T[19]? = some (.int .i64 (n : Nat)) := hk.val 3 19 (by kernel_rfl) (by kernel_rfl) rfl
        have hK := hK _ X hS (Reg.Is.of_val rfl) (fun _ _ _ h => h)
        clear hk
        go_simp
        exact hK
       refine Reg.EachV.plain rfl (fun T X hS hk K hK => ?_) ?_
       ·skip
        have g20 : T[20]? = some (.bool true) := hk.val 4 20 (by kernel_rfl) (by kernel_rfl) rfl
        have hK := hK _ X hS (Reg.Is.of_val rfl) (fun _ _ _ h => h)
        clear hk
        go_simp
        exact hK
       refine Reg.EachV.guarded 5 21 true rfl (by kernel_rfl) (by kernel_rfl) rfl (fun T X hS hk K hK => ?_) ?_
       ·skip
        have g3 : T[3]? = some (.slice (some ⟨x, o, none⟩) n vcap) := hk.old 3 (by kernel_rfl) rfl
        have hK := hK _ X hS (Reg.Is.of_val rfl) (fun _ _ _ h => h)
        clear hk
        go_simp
        exact hK
       refine Reg.EachV.guarded 5 21 true rfl (by kernel_rfl) (by kernel_rfl) rfl (fun T X hS hk K hK => ?_) ?_
       ·skip
        have g6 : T[6]? = some (.int .i64 (q0 : Nat)) := hk.old 6 (by kernel_rfl) rfl
        have hK := hK _ X hS (Reg.Is.of_val rfl) (fun _ _ _ h => h)
        clear hk
        go_simp
        exact hK
       refine Reg.EachV.guarded 5 21 true rfl (by kernel_rfl) (by kernel_rfl) rfl (fun T X hS hk K hK => ?_) ?_
       ·skip
        have g23 : T[23]? = some (.int .i64 (q0 : Nat)) := hk.val 7 23 (by kernel_rfl) (by kernel_rfl) rfl
        have hK := hK _ X hS (Reg.Is.of_val rfl) (fun _ _ _ h => h)
        clear hk
        go_simp
        exact hK
       refine Reg.EachV.guarded 5 21 true rfl (by kernel_rfl) (by kernel_rfl) rfl (fun T X hS hk K hK => ?_) ?_
       ·skip
        have g22 : T[22]? = some (.slice (some ⟨x, o, none⟩) n vcap) := hk.val 6 22 (by kernel_rfl) (by kernel_rfl) rfl
        have g24 : T[24]? = some (.int .i64 ((q0 : Int) + 1)) := hk.val 8 24 (by kernel_rfl) (by kernel_rfl) rfl
        have hK := hK _ X hS (Reg.Is.of_val rfl) (fun _ _ _ h => h)
        clear hk
        go_simp
        exact hK
       refine Reg.EachV.guarded 5 21 true rfl (by kernel_rfl) (by kernel_rfl) rfl (fun T X hS hk K hK => ?_) ?_
       ·skip
        have g25 : T[25]? = some (.pointer (some ⟨x, o + (q0 + 1), none⟩)) := hk.val 9 25 (by kernel_rfl) (by kernel_rfl) rfl
        have hcl := (hS.cell (p := ⟨x, o + (q0 + 1), none⟩) (World.block_lt_of_cell? _ _ hcn)).trans hcn
        have hK := hK _ X hS (Reg.Is.of_val rfl) (fun _ _ _ h => h)
        clear hk
        go_simp
        exact hK
       refine Reg.EachV.guarded 5 21 true rfl (by kernel_rfl) (by kernel_rfl) rfl (fun T X hS hk K hK => ?_) ?_
       ·skip
        have g3 : T[3]? = some (.slice (some ⟨x, o, none⟩) n vcap) := hk.old 3 (by kernel_rfl) rfl
        have hK := hK _ X hS (Reg.Is.of_val rfl) (fun _ _ _ h => h)
        clear hk
        go_simp
        exact hK
       refine Reg.EachV.guarded 5 21 true rfl (by kernel_rfl) (by kernel_rfl) rfl (fun T X hS hk K hK => ?_) ?_
       ·skip
        have g6 : T[6]? = some (.int .i64 (q0 : Nat)) := hk.old 6 (by kernel_rfl) rfl
        have hK := hK _ X hS (Reg.Is.of_val rfl) (fun _ _ _ h => h)
        clear hk
        go_simp
        exact hK
       refine Reg.EachV.guarded 5 21 true rfl (by kernel_rfl) (by kernel_rfl) rfl (fun T X hS hk K hK => ?_) ?_
       ·skip
        have g27 : T[27]? = some (.slice (some ⟨x, o, none⟩) n vcap) := hk.val 11 27 (by kernel_rfl) (by kernel_rfl) rfl
        have g28 : T[28]? = some (.int .i64 (q0 : Nat)) := hk.val 12 28 (by kernel_rfl) (by kernel_rfl) rfl
        have hK := hK _ X hS (Reg.Is.of_val rfl) (fun _ _ _ h => h)
        clear hk
        go_simp
        exact hK
       refine Reg.EachV.guarded 5 21 true rfl (by kernel_rfl) (by kernel_rfl) rfl (fun T X hS hk K hK => ?_) ?_
       ·skip
        have g29 : T[29]? = some (.pointer (some ⟨x, o + q0, none⟩)) := hk.val 13 29 (by kernel_rfl) (by kernel_rfl) rfl
        have hcl := (hS.cell (p := ⟨x, o + q0, none⟩) (World.block_lt_of_cell? _ _ hc0)).trans hc0
        have hK := hK _ X hS (Reg.Is.of_val rfl) (fun _ _ _ h => h)
        clear hk
        go_simp
        exact hK
       refine Reg.EachV.guarded 5 21 true rfl (by kernel_rfl) (by kernel_rfl) rfl (fun T X hS hk K hK => ?_) ?_
       ·skip
        have g30 : T[30]? = some (.int .u8 (d0 : Nat)) := hk.val 14 30 (by kernel_rfl) (by kernel_rfl) rfl
        have hK := hK _ X hS (Reg.Is.of_val rfl) (fun _ _ _ h => h)
        clear hk
        go_simp
        exact hK
       refine Reg.EachV.guarded 5 21 true rfl (by kernel_rfl) (by kernel_rfl) rfl (fun T X hS hk K hK => ?_) ?_
       ·skip
        have g26 : T[26]? = some (.int .u8 (d1 : Nat)) := hk.val 10 26 (by kernel_rfl) (by kernel_rfl) rfl
        have g31 : T[31]? = some (.int .u8 (d0s : Int)) := hk.val 15 31 (by kernel_rfl) (by kernel_rfl) rfl
        have hK := hK _ X hS (Reg.Is.of_val rfl) (fun _ _ _ h => h)
        clear hk
        go_simp
        exact hK
       refine Reg.EachV.plain rfl (fun T X hS hk K hK => ?_) ?_
       ·skip
        have g21 : T[21]? = some (.bool true) := hk.val 5 21 (by kernel_rfl) (by kernel_rfl) rfl
        have g32 : T[32]? = some (.bool false) := hk.val 16 32 (by kernel_rfl) (by kernel_rfl) rfl
        have hK := hK _ X hS (Reg.Is.of_val rfl) (fun _ _ _ h => h)
        clear hk
        go_simp
        exact hK
       exact Reg.EachV.nil
      case rsZ =>
       intro u w2 hS hI
       have e0 : u 0 = .int .i64 (q0 : Nat) := (hI 0 (by decide)).val rfl
       have e1 : u 1 = .int .i64 ((q0 : Int) + 1) := (hI 1 (by decide)).val rfl
       have e2 : u 2 = .slice (some ⟨x, o, none⟩) n vcap := (hI 2 (by decide)).val rfl
       have e3 : u 3 = .int .i64 (n : Nat) := (hI 3 (by decide)).val rfl
       have e4 : u 4 = .bool true := (hI 4 (by decide)).val rfl
       have e5 : u 5 = .bool true := (hI 5 (by decide)).val rfl
       have e6 : u 6 = .slice (some ⟨x, o, none⟩) n vcap := (hI 6 (by decide)).val rfl
       have e7 : u 7 = .int .i64 (q0 : Nat) := (hI 7 (by decide)).val rfl
       have e8 : u 8 = .int .i64 ((q0 : Int) + 1) := (hI 8 (by decide)).val rfl
       have e9 : u 9 = .pointer (some ⟨x, o + (q0 + 1), none⟩) := (hI 9 (by decide)).val rfl
       have e10 : u 10 = .int .u8 (d1 : Nat) := (hI 10 (by decide)).val rfl
       have e11 : u 11 = .slice (some ⟨x, o, none⟩) n vcap := (hI 11 (by decide)).val rfl
       have e12 : u 12 = .int .i64 (q0 : Nat) := (hI 12 (by decide)).val rfl
       have e13 : u 13 = .pointer (some ⟨x, o + q0, none⟩) := (hI 13 (by decide)).val rfl
       have e14 : u 14 = .int .u8 (d0 : Nat) := (hI 14 (by decide)).val rfl
       have e15 : u 15 = .int .u8 (d0s : Int) := (hI 15 (by decide)).val rfl
       have e16 : u 16 = .bool false := (hI 16 (by decide)).val rfl
       have e17 : u 17 = .bool false := (hI 17 (by decide)).val rfl
       clear hI
       simp only [Reg.putAll, Act.put, List.setIfInBounds_toArray, List.set_cons_succ, List.set_cons_zero, Nat.zero_add, Nat.reduceAdd, e0, e1, e2, e3, e4, e5, e6, e7, e8, e9, e10, e11, e12, e13, e14, e15, e16, e17]
       clear e0 e1 e2 e3 e4 e5 e6 e7 e8 e9 e10 e11 e12 e13 e14 e15 e16 e17
       have HW2 := Lib.hid (below_thn HWX.out (Nat.le_refl _) hS)
       have HCI2 := Lib.hid ((hS.cell (p := ⟨x, o + I, none⟩) (World.block_lt_of_cell? _ _ HCI.out)).trans HCI.out)
       have HC02 := Lib.hid ((hS.cell (p := ⟨x, o + q0, none⟩) (World.block_lt_of_cell? _ _ HC0.out)).trans HC0.out)
       clear hS
       by_cases hz0 : I = 0
       ·have hdn : dn = [] := hnon.1 hz0
        have hI0 : ¬ (0 : Int) < (I : Int) := by omega
        have HDN := Lib.hid hdn
        subst hdn
        have HZ0 := Lib.hid hz0
        clear hz0 hnon
        by_cases hj0 : j = 0
        ·have hqI : ¬ (I : Int) < (q0 : Int) := by rw [HKJ.out]; omega
         have HJ0 := Lib.hid hj0
         have hrun : ¬ lo + 1 < e := by omega
         clear hj0
         have HSI := Lib.hid (sl_one (X := w2) (x := x) (o := o) (cap := vcap) (I := I) (c := lo) HCI2.out hlo (by omega) hc2)
         have hcv := conv_string HSI.out
         have HXH := Lib.hid (HRHH.out lo w2 hlo)
         have hob : (ofBys [(lo : Int)]).size = 1 := by rw [ofBys_size]; rfl
         have hx1 : (⟨(hex2 lo).toArray⟩ : ByteArray).size = 2 := rfl
         generalize ofBys [(lo : Int)] = sb at *
         generalize (⟨(hex2 lo).toArray⟩ : ByteArray) = s1 at *
         go_wp2_with fail
         refine HXH.out.out.mono ?_
         rintro e' w3 ⟨rfl, hb3⟩
         have HW3 := Lib.hid (below_thn HW2.out (Nat.le_refl _) hb3)
         have HC03 := Lib.hid ((hb3.cell (p := ⟨x, o + q0, none⟩) (World.block_lt_of_cell? _ _ HC02.out)).trans HC02.out)
         clear hb3 hcv
         have HNX : Hid (RtI w p (.slice (some ⟨x, o, none⟩) n vcap) e [runT lo e] w3) := Lib.hid ⟨hle, by rw [List.singleton_append, ← HST.out]; have := HI.out.spl; rwa [List.nil_append] at this, ⟨fun h => by rw [HEN.out] at h; omega, fun h => absurd h (by simp)⟩, below_thn HI.out.bel (Nat.le_refl _) HW3.out, HI.out.sl.below HW3.out⟩
         have HSO := Lib.hid (HO1.out.2 (by omega))
         have HPL : Hid ((q0 : Int) + 1 = ((idx p e : Nat) : Int)) := Lib.hid (by rw [HEN.out, HKJ.out]; omega)
         go_wp2
         exact ⟨⟨e, [runT lo e], by rw [← HSO.out], by rw [← HPL.out], HNX.out⟩, by simp [intOf]; omega⟩
        ·have hqI : (I : Int) < (q0 : Int) := by rw [HKJ.out]; omega
         have HSI := Lib.hid (sl_one (X := w2) (x := x) (o := o) (cap := vcap) (I := I) (c := lo) HCI2.out hlo (by omega) hc2)
         have hcv := conv_string HSI.out
         have HXH := Lib.hid (HRHH.out lo w2 hlo)
         have hob : (ofBys [(lo : Int)]).size = 1 := by rw [ofBys_size]; rfl
         have hx1 : (⟨(hex2 lo).toArray⟩ : ByteArray).size = 2 := rfl
         generalize ofBys [(lo : Int)] = sb at *
         generalize (⟨(hex2 lo).toArray⟩ : ByteArray) = s1 at *
         go_wp2_with fail
         refine HXH.out.out.mono ?_
         rintro e' w3 ⟨rfl, hb3⟩
         have HW3 := Lib.hid (below_thn HW2.out (Nat.le_refl _) hb3)
         have HC03 := Lib.hid ((hb3.cell (p := ⟨x, o + q0, none⟩) (World.block_lt_of_cell? _ _ HC02.out)).trans HC02.out)
         clear hb3 hcv
         have HSK := Lib.hid (sl_one (X := w3) (x := x) (o := o) (cap := vcap) (I := q0) (c := lo + j) HC03.out (by omega) (by omega) hc2)
         have hcv := conv_string HSK.out
         have HXK := Lib.hid (HRHH.out (lo + j) w3 (by omega))
         have hob2 : (ofBys [((lo + j : Nat) : Int)]).size = 1 := by rw [ofBys_size]; rfl
         have hx2 : (⟨(hex2 (lo + j)).toArray⟩ : ByteArray).size = 2 := rfl
         generalize ofBys [((lo + j : Nat) : Int)] = sb2 at *
         have hlj : lo + j = e - 1 := by omega
         rw [hlj] at HXK hx2
         generalize (⟨(hex2 (e - 1)).toArray⟩ : ByteArray) = s2 at *
         clear hlj
         go_wp2_with fail
         refine HXK.out.out.mono ?_
         rintro e' w4 ⟨rfl, hb4⟩
         have HW4 := Lib.hid (below_thn HW3.out (Nat.le_refl _) hb4)
         clear hb4 hcv
         have HNX : Hid (RtI w p (.slice (some ⟨x, o, none⟩) n vcap) e [runT lo e] w4) := Lib.hid ⟨hle, by rw [List.singleton_append, ← HST.out]; have := HI.out.spl; rwa [List.nil_append] at this, ⟨fun h => by rw [HEN.out] at h; omega, fun h => absurd h (by simp)⟩, below_thn HI.out.bel (Nat.le_refl _) HW4.out, HI.out.sl.below HW4.out⟩
         have HSO := Lib.hid (HO1.out.1 (by omega))
         have HPL : Hid ((q0 : Int) + 1 = ((idx p e : Nat) : Int)) := Lib.hid (by rw [HEN.out, HKJ.out]; omega)
         go_wp2
         exact ⟨⟨e, [runT lo e], by rw [← HSO.out], by rw [← HPL.out], HNX.out⟩, by simp [intOf]; omega⟩
       ·have hdn : dn ≠ [] := fun h => hz0 (hnon.2 h)
        have hI0 : (0 : Int) < (I : Int) := by omega
        clear hnon
        by_cases hj0 : j = 0
        ·have hqI : ¬ (I : Int) < (q0 : Int) := by rw [HKJ.out]; omega
         have HJ0 := Lib.hid hj0
         have hrun : ¬ lo + 1 < e := by omega
         clear hj0
         have HSI := Lib.hid (sl_one (X := w2) (x := x) (o := o) (cap := vcap) (I := I) (c := lo) HCI2.out hlo (by omega) hc2)
         have hcv := conv_string HSI.out
         have HXH := Lib.hid (HRHH.out lo w2 hlo)
         have hob : (ofBys [(lo : Int)]).size = 1 := by rw [ofBys_size]; rfl
         have hx1 : (⟨(hex2 lo).toArray⟩ : ByteArray).size = 2 := rfl
         generalize ofBys [(lo : Int)] = sb at *
         generalize (⟨(hex2 lo).toArray⟩ : ByteArray) = s1 at *
         go_wp2_with fail
         refine HXH.out.out.mono ?_
         rintro e' w3 ⟨rfl, hb3⟩
         have HW3 := Lib.hid (below_thn HW2.out (Nat.le_refl _) hb3)
         have HC03 := Lib.hid ((hb3.cell (p := ⟨x, o + q0, none⟩) (World.block_lt_of_cell? _ _ HC02.out)).trans HC02.out)
         clear hb3 hcv
         have HNX : Hid (RtI w p (.slice (some ⟨x, o, none⟩) n vcap) e (dn ++ [runT lo e]) w3) := Lib.hid ⟨hle, by rw [List.append_assoc, List.singleton_append, ← HST.out]; exact HI.out.spl, ⟨fun h => by rw [HEN.out] at h; omega, fun h => absurd h (by simp)⟩, below_thn HI.out.bel (Nat.le_refl _) HW3.out, HI.out.sl.below HW3.out⟩
         have HSO := Lib.hid ((HO2.out hdn).2 (by omega))
         have HPL : Hid ((q0 : Int) + 1 = ((idx p e : Nat) : Int)) := Lib.hid (by rw [HEN.out, HKJ.out]; omega)
         go_wp2
         exact ⟨⟨e, (dn ++ [runT lo e]), by rw [← HSO.out], by rw [← HPL.out], HNX.out⟩, by simp [intOf]; omega⟩
        ·have hqI : (I : Int) < (q0 : Int) := by rw [HKJ.out]; omega
         have HSI := Lib.hid (sl_one (X := w2) (x := x) (o := o) (cap := vcap) (I := I) (c := lo) HCI2.out hlo (by omega) hc2)
         have hcv := conv_string HSI.out
         have HXH := Lib.hid (HRHH.out lo w2 hlo)
         have hob : (ofBys [(lo : Int)]).size = 1 := by rw [ofBys_size]; rfl
         have hx1 : (⟨(hex2 lo).toArray⟩ : ByteArray).size = 2 := rfl
         generalize ofBys [(lo : Int)] = sb at *
         generalize (⟨(hex2 lo).toArray⟩ : ByteArray) = s1 at *
         go_wp2_with fail
         refine HXH.out.out.mono ?_
         rintro e' w3 ⟨rfl, hb3⟩
         have HW3 := Lib.hid (below_thn HW2.out (Nat.le_refl _) hb3)
         have HC03 := Lib.hid ((hb3.cell (p := ⟨x, o + q0, none⟩) (World.block_lt_of_cell? _ _ HC02.out)).trans HC02.out)
         clear hb3 hcv
         have HSK := Lib.hid (sl_one (X := w3) (x := x) (o := o) (cap := vcap) (I := q0) (c := lo + j) HC03.out (by omega) (by omega) hc2)
         have hcv := conv_string HSK.out
         have HXK := Lib.hid (HRHH.out (lo + j) w3 (by omega))
         have hob2 : (ofBys [((lo + j : Nat) : Int)]).size = 1 := by rw [ofBys_size]; rfl
         have hx2 : (⟨(hex2 (lo + j)).toArray⟩ : ByteArray).size = 2 := rfl
         generalize ofBys [((lo + j : Nat) : Int)] = sb2 at *
         have hlj : lo + j = e - 1 := by omega
         rw [hlj] at HXK hx2
         generalize (⟨(hex2 (e - 1)).toArray⟩ : ByteArray) = s2 at *
         clear hlj
         go_wp2_with fail
         refine HXK.out.out.mono ?_
         rintro e' w4 ⟨rfl, hb4⟩
         have HW4 := Lib.hid (below_thn HW3.out (Nat.le_refl _) hb4)
         clear hb4 hcv
         have HNX : Hid (RtI w p (.slice (some ⟨x, o, none⟩) n vcap) e (dn ++ [runT lo e]) w4) := Lib.hid ⟨hle, by rw [List.append_assoc, List.singleton_append, ← HST.out]; exact HI.out.spl, ⟨fun h => by rw [HEN.out] at h; omega, fun h => absurd h (by simp)⟩, below_thn HI.out.bel (Nat.le_refl _) HW4.out, HI.out.sl.below HW4.out⟩
         have HSO := Lib.hid ((HO2.out hdn).1 (by omega))
         have HPL : Hid ((q0 : Int) + 1 = ((idx p e : Nat) : Int)) := Lib.hid (by rw [HEN.out, HKJ.out]; omega)
         go_wp2
         exact ⟨⟨e, (dn ++ [runT lo e]), by rw [← HSO.out], by rw [← HPL.out], HNX.out⟩, by simp [intOf]; omega⟩
     ·have hdc : decide ((q0 : Int) + 1 < (n : Int)) = false := by simpa using hn2
      clear hfin hn2
      go_wp2_with fail
      refine Reg.wp_region_vals (fun X => Below wr.heap.size wr X) (fun j => ([some (.int .i64 (q0 : Nat)), some (.int .i64 ((q0 : Int) + 1)), some (.slice (some ⟨x, o, none⟩) n vcap), some (.int .i64 (n : Nat)), some (.bool false), some (.bool false), some undef, some undef, some undef, some undef, some undef, some undef, some undef, some undef, some undef, some undef, some undef, some (.bool false)] : List (Option Value)).getD j none) (fun _ _ _ => True) (by kernel_rfl) (by kernel_rfl) (by kernel_rfl) (by kernel_rfl) ?rs0 ?rsE ?rsZ
      case rs0 => exact (Below.refl _ _).drew
      case rsE =>
       refine Reg.EachV.plain rfl (fun T X hS hk K hK => ?_) ?_
       ·skip
        have g6 : T[6]? = some (.int .i64 (q0 : Nat)) := hk.old 6 (by kernel_rfl) rfl
        have hK := hK _ X hS (Reg.Is.of_val rfl) (fun _ _ _ h => h)
        clear hk
        go_simp
        exact hK
       refine Reg.EachV.plain rfl (fun T X hS hk K hK => ?_) ?_
       ·skip
        have g16 : T[16]? = some (.int .i64 (q0 : Nat)) := hk.val 0 16 (by kernel_rfl) (by kernel_rfl) rfl
        have hK := hK _ X hS (Reg.Is.of_val rfl) (fun _ _ _ h => h)
        clear hk
        go_simp
        exact hK
       refine Reg.EachV.plain rfl (fun T X hS hk K hK => ?_) ?_
       ·skip
        have g3 : T[3]? = some (.slice (some ⟨x, o, none⟩) n vcap) := hk.old 3 (by kernel_rfl) rfl
        have hK := hK _ X hS (Reg.Is.of_val rfl) (fun _ _ _ h => h)
        clear hk
        go_simp
        exact hK
       refine Reg.EachV.plain rfl (fun T X hS hk K hK => ?_) ?_
       ·skip
        have g18 : T[18]? = some (.slice (some ⟨x, o, none⟩) n vcap) := hk.val 2 18 (by kernel_rfl) (by kernel_rfl) rfl
        have hK := hK _ X hS (Reg.Is.of_val rfl) (fun _ _ _ h => h)
        clear hk
        go_simp
        exact hK
       refine Reg.EachV.plain rfl (fun T X hS hk K hK => ?_) ?_
       ·skip
        have g17 : T[17]? = some (.int .i64 ((q0 : Int) + 1)) := hk.val 1 17 (by kernel_rfl) (by kernel_rfl) rfl
        have g19 : T[19]? = some (.int .i64 (n : Nat)) := hk.val 3 19 (by kernel_rfl) (by kernel_rfl) rfl
        have hK := hK _ X hS (Reg.Is.of_val rfl) (fun _ _ _ h => h)
        clear hk
        go_simp
        exact hK
       refine Reg.EachV.plain rfl (fun T X hS hk K hK => ?_) ?_
       ·skip
        have g20 : T[20]? = some (.bool false) := hk.val 4 20 (by kernel_rfl) (by kernel_rfl) rfl
        have hK := hK _ X hS (Reg.Is.of_val rfl) (fun _ _ _ h => h)
        clear hk
        go_simp
        exact hK
       refine Reg.EachV.passed 5 21 false rfl (by kernel_rfl) (by kernel_rfl) rfl rfl ?_
       refine Reg.EachV.passed 5 21 false rfl (by kernel_rfl) (by kernel_rfl) rfl rfl ?_
       refine Reg.EachV.passed 5 21 false rfl (by kernel_rfl) (by kernel_rfl) rfl rfl ?_
       refine Reg.EachV.passed 5 21 false rfl (by kernel_rfl) (by kernel_rfl) rfl rfl ?_
       refine Reg.EachV.passed 5 21 false rfl (by kernel_rfl) (by kernel_rfl) rfl rfl ?_
       refine Reg.EachV.passed 5 21 false rfl (by kernel_rfl) (by kernel_rfl) rfl rfl ?_
       refine Reg.EachV.passed 5 21 false rfl (by kernel_rfl) (by kernel_rfl) rfl rfl ?_
       refine Reg.EachV.passed 5 21 false rfl (by kernel_rfl) (by kernel_rfl) rfl rfl ?_
       refine Reg.EachV.passed 5 21 false rfl (by kernel_rfl) (by kernel_rfl) rfl rfl ?_
       refine Reg.EachV.passed 5 21 false rfl (by kernel_rfl) (by kernel_rfl) rfl rfl ?_
       refine Reg.EachV.passed 5 21 false rfl (by kernel_rfl) (by kernel_rfl) rfl rfl ?_
       refine Reg.EachV.plain rfl (fun T X hS hk K hK => ?_) ?_
       ·skip
        have g21 : T[21]? = some (.bool false) := hk.val 5 21 (by kernel_rfl) (by kernel_rfl) rfl
        have g32 : T[32]? = some (undef) := hk.val 16 32 (by kernel_rfl) (by kernel_rfl) rfl
        have hK := hK _ X hS (Reg.Is.of_val rfl) (fun _ _ _ h => h)
        clear hk
        go_simp
        exact hK
       exact Reg.EachV.nil
      case rsZ =>
       intro u w2 hS hI
       have e0 : u 0 = .int .i64 (q0 : Nat) := (hI 0 (by decide)).val rfl
       have e1 : u 1 = .int .i64 ((q0 : Int) + 1) := (hI 1 (by decide)).val rfl
       have e2 : u 2 = .slice (some ⟨x, o, none⟩) n vcap := (hI 2 (by decide)).val rfl
       have e3 : u 3 = .int .i64 (n : Nat) := (hI 3 (by decide)).val rfl
       have e4 : u 4 = .bool false := (hI 4 (by decide)).val rfl
       have e5 : u 5 = .bool false := (hI 5 (by decide)).val rfl
       have e6 : u 6 = undef := (hI 6 (by decide)).val rfl
       have e7 : u 7 = undef := (hI 7 (by decide)).val rfl
       have e8 : u 8 = undef := (hI 8 (by decide)).val rfl
       have e9 : u 9 = undef := (hI 9 (by decide)).val rfl
       have e10 : u 10 = undef := (hI 10 (by decide)).val rfl
       have e11 : u 11 = undef := (hI 11 (by decide)).val rfl
       have e12 : u 12 = undef := (hI 12 (by decide)).val rfl
       have e13 : u 13 = undef := (hI 13 (by decide)).val rfl
       have e14 : u 14 = undef := (hI 14 (by decide)).val rfl
       have e15 : u 15 = undef := (hI 15 (by decide)).val rfl
       have e16 : u 16 = undef := (hI 16 (by decide)).val rfl
       have e17 : u 17 = .bool false := (hI 17 (by decide)).val rfl
       clear hI
       simp only [Reg.putAll, Act.put, List.setIfInBounds_toArray, List.set_cons_succ, List.set_cons_zero, Nat.zero_add, Nat.reduceAdd, e0, e1, e2, e3, e4, e5, e6, e7, e8, e9, e10, e11, e12, e13, e14, e15, e16, e17]
       clear e0 e1 e2 e3 e4 e5 e6 e7 e8 e9 e10 e11 e12 e13 e14 e15 e16 e17
       have HW2 := Lib.hid (below_thn HWX.out (Nat.le_refl _) hS)
       have HCI2 := Lib.hid ((hS.cell (p := ⟨x, o + I, none⟩) (World.block_lt_of_cell? _ _ HCI.out)).trans HCI.out)
       have HC02 := Lib.hid ((hS.cell (p := ⟨x, o + q0, none⟩) (World.block_lt_of_cell? _ _ HC0.out)).trans HC0.out)
       clear hS
       by_cases hz0 : I = 0
       ·have hdn : dn = [] := hnon.1 hz0
        have hI0 : ¬ (0 : Int) < (I : Int) := by omega
        have HDN := Lib.hid hdn
        subst hdn
        have HZ0 := Lib.hid hz0
        clear hz0 hnon
        by_cases hj0 : j = 0
        ·have hqI : ¬ (I : Int) < (q0 : Int) := by rw [HKJ.out]; omega
         have HJ0 := Lib.hid hj0
         have hrun : ¬ lo + 1 < e := by omega
         clear hj0
         have HSI := Lib.hid (sl_one (X := w2) (x := x) (o := o) (cap := vcap) (I := I) (c := lo) HCI2.out hlo (by omega) hc2)
         have hcv := conv_string HSI.out
         have HXH := Lib.hid (HRHH.out lo w2 hlo)
         have hob : (ofBys [(lo : Int)]).size = 1 := by rw [ofBys_size]; rfl
         have hx1 : (⟨(hex2 lo).toArray⟩ : ByteArray).size = 2 := rfl
         generalize ofBys [(lo : Int)] = sb at *
         generalize (⟨(hex2 lo).toArray⟩ : ByteArray) = s1 at *
         go_wp2_with fail
         refine HXH.out.out.mono ?_
         rintro e' w3 ⟨rfl, hb3⟩
         have HW3 := Lib.hid (below_thn HW2.out (Nat.le_refl _) hb3)
         have HC03 := Lib.hid ((hb3.cell (p := ⟨x, o + q0, none⟩) (World.block_lt_of_cell? _ _ HC02.out)).trans HC02.out)
         clear hb3 hcv
         have HNX : Hid (RtI w p (.slice (some ⟨x, o, none⟩) n vcap) e [runT lo e] w3) := Lib.hid ⟨hle, by rw [List.singleton_append, ← HST.out]; have := HI.out.spl; rwa [List.nil_append] at this, ⟨fun h => by rw [HEN.out] at h; omega, fun h => absurd h (by simp)⟩, below_thn HI.out.bel (Nat.le_refl _) HW3.out, HI.out.sl.below HW3.out⟩
         have HSO := Lib.hid (HO1.out.2 (by omega))
         have HPL : Hid ((q0 : Int) + 1 = ((idx p e : Nat) : Int)) := Lib.hid (by rw [HEN.out, HKJ.out]; omega)
         go_wp2
         exact ⟨⟨e, [runT lo e], by rw [← HSO.out], by rw [← HPL.out], HNX.out⟩, by simp [intOf]; omega⟩
        ·have hqI : (I : Int) < (q0 : Int) := by rw [HKJ.out]; omega
         have HSI := Lib.hid (sl_one (X := w2) (x := x) (o := o) (cap := vcap) (I := I) (c := lo) HCI2.out hlo (by omega) hc2)
         have hcv := conv_string HSI.out
         have HXH := Lib.hid (HRHH.out lo w2 hlo)
         have hob : (ofBys [(lo : Int)]).size = 1 := by rw [ofBys_size]; rfl
         have hx1 : (⟨(hex2 lo).toArray⟩ : ByteArray).size = 2 := rfl
         generalize ofBys [(lo : Int)] = sb at *
         generalize (⟨(hex2 lo).toArray⟩ : ByteArray) = s1 at *
         go_wp2_with fail
         refine HXH.out.out.mono ?_
         rintro e' w3 ⟨rfl, hb3⟩
         have HW3 := Lib.hid (below_thn HW2.out (Nat.le_refl _) hb3)
         have HC03 := Lib.hid ((hb3.cell (p := ⟨x, o + q0, none⟩) (World.block_lt_of_cell? _ _ HC02.out)).trans HC02.out)
         clear hb3 hcv
         have HSK := Lib.hid (sl_one (X := w3) (x := x) (o := o) (cap := vcap) (I := q0) (c := lo + j) HC03.out (by omega) (by omega) hc2)
         have hcv := conv_string HSK.out
         have HXK := Lib.hid (HRHH.out (lo + j) w3 (by omega))
         have hob2 : (ofBys [((lo + j : Nat) : Int)]).size = 1 := by rw [ofBys_size]; rfl
         have hx2 : (⟨(hex2 (lo + j)).toArray⟩ : ByteArray).size = 2 := rfl
         generalize ofBys [((lo + j : Nat) : Int)] = sb2 at *
         have hlj : lo + j = e - 1 := by omega
         rw [hlj] at HXK hx2
         generalize (⟨(hex2 (e - 1)).toArray⟩ : ByteArray) = s2 at *
         clear hlj
         go_wp2_with fail
         refine HXK.out.out.mono ?_
         rintro e' w4 ⟨rfl, hb4⟩
         have HW4 := Lib.hid (below_thn HW3.out (Nat.le_refl _) hb4)
         clear hb4 hcv
         have HNX : Hid (RtI w p (.slice (some ⟨x, o, none⟩) n vcap) e [runT lo e] w4) := Lib.hid ⟨hle, by rw [List.singleton_append, ← HST.out]; have := HI.out.spl; rwa [List.nil_append] at this, ⟨fun h => by rw [HEN.out] at h; omega, fun h => absurd h (by simp)⟩, below_thn HI.out.bel (Nat.le_refl _) HW4.out, HI.out.sl.below HW4.out⟩
         have HSO := Lib.hid (HO1.out.1 (by omega))
         have HPL : Hid ((q0 : Int) + 1 = ((idx p e : Nat) : Int)) := Lib.hid (by rw [HEN.out, HKJ.out]; omega)
         go_wp2
         exact ⟨⟨e, [runT lo e], by rw [← HSO.out], by rw [← HPL.out], HNX.out⟩, by simp [intOf]; omega⟩
       ·have hdn : dn ≠ [] := fun h => hz0 (hnon.2 h)
        have hI0 : (0 : Int) < (I : Int) := by omega
        clear hnon
        by_cases hj0 : j = 0
        ·have hqI : ¬ (I : Int) < (q0 : Int) := by rw [HKJ.out]; omega
         have HJ0 := Lib.hid hj0
         have hrun : ¬ lo + 1 < e := by omega
         clear hj0
         have HSI := Lib.hid (sl_one (X := w2) (x := x) (o := o) (cap := vcap) (I := I) (c := lo) HCI2.out hlo (by omega) hc2)
         have hcv := conv_string HSI.out
         have HXH := Lib.hid (HRHH.out lo w2 hlo)
         have hob : (ofBys [(lo : Int)]).size = 1 := by rw [ofBys_size]; rfl
         have hx1 : (⟨(hex2 lo).toArray⟩ : ByteArray).size = 2 := rfl
         generalize ofBys [(lo : Int)] = sb at *
         generalize (⟨(hex2 lo).toArray⟩ : ByteArray) = s1 at *
         go_wp2_with fail
         refine HXH.out.out.mono ?_
         rintro e' w3 ⟨rfl, hb3⟩
         have HW3 := Lib.hid (below_thn HW2.out (Nat.le_refl _) hb3)
         have HC03 := Lib.hid ((hb3.cell (p := ⟨x, o + q0, none⟩) (World.block_lt_of_cell? _ _ HC02.out)).trans HC02.out)
         clear hb3 hcv
         have HNX : Hid (RtI w p (.slice (some ⟨x, o, none⟩) n vcap) e (dn ++ [runT lo e]) w3) := Lib.hid ⟨hle, by rw [List.append_assoc, List.singleton_append, ← HST.out]; exact HI.out.spl, ⟨fun h => by rw [HEN.out] at h; omega, fun h => absurd h (by simp)⟩, below_thn HI.out.bel (Nat.le_refl _) HW3.out, HI.out.sl.below HW3.out⟩
         have HSO := Lib.hid ((HO2.out hdn).2 (by omega))
         have HPL : Hid ((q0 : Int) + 1 = ((idx p e : Nat) : Int)) := Lib.hid (by rw [HEN.out, HKJ.out]; omega)
         go_wp2
         exact ⟨⟨e, (dn ++ [runT lo e]), by rw [← HSO.out], by rw [← HPL.out], HNX.out⟩, by simp [intOf]; omega⟩
        ·have hqI : (I : Int) < (q0 : Int) := by rw [HKJ.out]; omega
         have HSI := Lib.hid (sl_one (X := w2) (x := x) (o := o) (cap := vcap) (I := I) (c := lo) HCI2.out hlo (by omega) hc2)
         have hcv := conv_string HSI.out
         have HXH := Lib.hid (HRHH.out lo w2 hlo)
         have hob : (ofBys [(lo : Int)]).size = 1 := by rw [ofBys_size]; rfl
         have hx1 : (⟨(hex2 lo).toArray⟩ : ByteArray).size = 2 := rfl
         generalize ofBys [(lo : Int)] = sb at *
         generalize (⟨(hex2 lo).toArray⟩ : ByteArray) = s1 at *
         go_wp2_with fail
         refine HXH.out.out.mono ?_
         rintro e' w3 ⟨rfl, hb3⟩
         have HW3 := Lib.hid (below_thn HW2.out (Nat.le_refl _) hb3)
         have HC03 := Lib.hid ((hb3.cell (p := ⟨x, o + q0, none⟩) (World.block_lt_of_cell? _ _ HC02.out)).trans HC02.out)
         clear hb3 hcv
         have HSK := Lib.hid (sl_one (X := w3) (x := x) (o := o) (cap := vcap) (I := q0) (c := lo + j) HC03.out (by omega) (by omega) hc2)
         have hcv := conv_string HSK.out
         have HXK := Lib.hid (HRHH.out (lo + j) w3 (by omega))
         have hob2 : (ofBys [((lo + j : Nat) : Int)]).size = 1 := by rw [ofBys_size]; rfl
         have hx2 : (⟨(hex2 (lo + j)).toArray⟩ : ByteArray).size = 2 := rfl
         generalize ofBys [((lo + j : Nat) : Int)] = sb2 at *
         have hlj : lo + j = e - 1 := by omega
         rw [hlj] at HXK hx2
         generalize (⟨(hex2 (e - 1)).toArray⟩ : ByteArray) = s2 at *
         clear hlj
         go_wp2_with fail
         refine HXK.out.out.mono ?_
         rintro e' w4 ⟨rfl, hb4⟩
         have HW4 := Lib.hid (below_thn HW3.out (Nat.le_refl _) hb4)
         clear hb4 hcv
         have HNX : Hid (RtI w p (.slice (some ⟨x, o, none⟩) n vcap) e (dn ++ [runT lo e]) w4) := Lib.hid ⟨hle, by rw [List.append_assoc, List.singleton_append, ← HST.out]; exact HI.out.spl, ⟨fun h => by rw [HEN.out] at h; omega, fun h => absurd h (by simp)⟩, below_thn HI.out.bel (Nat.le_refl _) HW4.out, HI.out.sl.below HW4.out⟩
         have HSO := Lib.hid ((HO2.out hdn).1 (by omega))
         have HPL : Hid ((q0 : Int) + 1 = ((idx p e : Nat) : Int)) := Lib.hid (by rw [HEN.out, HKJ.out]; omega)
         go_wp2
         exact ⟨⟨e, (dn ++ [runT lo e]), by rw [← HSO.out], by rw [← HPL.out], HNX.out⟩, by simp [intOf]; omega⟩
  ·have hnl : ¬ fst p k < 256 := fun h => hlt (hmo.2 h)
   have HEN : Hid (dn = runs p) := Lib.hid (by have := HI.out.spl; rw [runsN_end p k hnl, List.append_nil] at this; exact this)
   have HTS : Hid (outS dn ++ (⟨#[93]⟩ : ByteArray) = textS p) := Lib.hid (by rw [HEN.out]; apply ByteArray.ext; simp [outS, textS, textL])
   clear hmo hnl
   go_wp2
   go_ret
   exact ⟨by rw [← HTS.out]; rfl, HI.out.bel⟩
end Go.Proofs.YtopnckfmdjhbjaaGreatDoor
/- The contract of the reference's PatternText (gen_rpt.py). -/
namespace Go.Proofs.YtopnckfmdjhbjaaGreatDoor
open Go.RowKit

/-- The text of pieces, as bytes. -/
def jnG (ps : List Pc) : ByteArray := ⟨(textG ps).toArray⟩
theorem jnG_nil : jnG [] = ⟨#[]⟩ := rfl
theorem jnG_snoc (ps : List Pc) (x : Pc) : jnG (ps ++ [x]) = (if ps = [] then jnG ps else jnG ps ++ ⟨#[32]⟩) ++ ⟨(wordL x).toArray⟩ := by
 unfold jnG textG
 rw [List.map_append, List.map_singleton, join_snoc]
 cases ps with
 | nil => apply ByteArray.ext; simp [Lib.join_nil]
 | cons y r =>
  rw [if_neg (by simp), if_neg (by simp)]
  apply ByteArray.ext
  simp
theorem jnG_size : ∀ (ps : List Pc) (k : Nat), k ≤ ps.length → (jnG (ps.take k)).size ≤ k * 1539
 | ps, 0, _ => by rw [List.take_zero, jnG_nil]; exact Nat.le_refl _
 | ps, k + 1, h => by
  have ih := jnG_size ps k (by omega)
  have hk : k < ps.length := by omega
  have e : ps.take (k + 1) = ps.take k ++ [ps[k]] := by simp
  have hw := wordL_len ps[k]
  rw [e, jnG_snoc]
  have hz : ∀ (s t : ByteArray), (s ++ t).size = s.size + t.size := fun s t => ByteArray.size_append
  have hs : (⟨(wordL ps[k]).toArray⟩ : ByteArray).size = (wordL ps[k]).length := rfl
  split
  ·rw [hz, hs]; omega
  ·rw [hz, hz, hs, show (⟨#[32]⟩ : ByteArray).size = 1 from rfl]; omega

set_option maxRecDepth 100000 in
set_option maxHeartbeats 16000000 in
theorem rptext_any (ps : List Pc) (v : Value) (B : Nat) (w : World) (hrow : w.ownsRow B 55 5 v ps.length (cellsL ps)) (hl : ps.length ≤ 256) :
  Calls Tryz.prog 12 #[v] w fun e w' => e = .returned (.string (jnG ps)) ∧ Below w.heap.size w w' := by
 have HROW := Lib.hid hrow
 obtain ⟨n, hn⟩ : ∃ n, n = ps.length := ⟨_, rfl⟩
 have HN := Lib.hid hn
 obtain ⟨av, capv, hv⟩ := own_shapeK hrow
 rw [← hn] at hl hv
 subst hv
 have HTX : Hid (∀ (p : Nat → Bool) X, Calls Tryz.prog 30 #[.agg #[.int .u64 (sw p 0 : Nat), .int .u64 (sw p 1 : Nat), .int .u64 (sw p 2 : Nat), .int .u64 (sw p 3 : Nat)]] X fun e w' => e = .returned (.string (textS p)) ∧ Below X.heap.size X w') := Lib.hid fun p X => rtext_any p X
 have HFIN : Hid (jnG (ps.take n) = jnG ps) := Lib.hid (by rw [hn, List.take_of_length_le (Nat.le_refl _)])
 clear hrow hn
 have HB0 : Hid (Below w.heap.size w w) := Lib.hid (Below.refl _ _)
 go_enter Tryz.func12, Tryz.ntmps12
 go_wp2_with fail
 go_loopw [3, 8] (fun s ix X => ∃ k : Nat, s = .string (jnG (ps.take k)) ∧ ix = .int .i64 (k : Nat) ∧ k ≤ n ∧ Hid (Below w.heap.size w X)) (fun _ ix _ => n - (intOf ix).toNat)
 case atStart => exact ⟨0, rfl, rfl, Nat.zero_le _, HB0⟩
 case round =>
  obtain ⟨k, rfl, rfl, hk, HB⟩ := hrel
  by_cases hlt : k < n
  ·have hltL : k < ps.length := by rw [← HN.out]; exact hlt
   obtain ⟨x, hx⟩ : ∃ x, ps[k]? = some x := ⟨ps[k], List.getElem?_eq_getElem hltL⟩
   have hro := HROW.out
   rw [← HN.out] at hro
   obtain ⟨g, hg⟩ : ∃ g, av = some ⟨g, 0, none⟩ := by
    rcases hro.2 with ⟨_, h0⟩ | ⟨g, cap', cur, e, _⟩
    ·omega
    ·simp only [Value.slice.injEq] at e
     exact ⟨g, e.1⟩
   subst hg
   have hro2 := own_drop hro HB.out
   have p0 := row_at hro2 hx 0 (by decide) _ rfl
   have p1 := row_at hro2 hx 1 (by decide) _ rfl
   have p2 := row_at hro2 hx 2 (by decide) _ rfl
   have p3 := row_at hro2 hx 3 (by decide) _ rfl
   have p4 := row_at hro2 hx 4 (by decide) _ rfl
   rw [Nat.add_zero] at p0
   have hkI : (k : Int) < (n : Int) := by omega
   have hsz := jnG_size ps k (by omega)
   have HS : Hid (jnG (ps.take (k + 1)) = (if k = 0 then jnG (ps.take k) else jnG (ps.take k) ++ ⟨#[32]⟩) ++ ⟨(wordL x).toArray⟩) := Lib.hid (by
    have e : ps.take (k + 1) = ps.take k ++ [x] := by
     have hg := (List.getElem?_eq_some_iff.1 hx).2
     rw [← hg]; simp
    rw [e, jnG_snoc]
    by_cases h0 : k = 0
    ·rw [if_pos h0, if_pos (by rw [h0]; rfl)]
    ·rw [if_neg h0, if_neg (fun h => by have := congrArg List.length h; rw [List.length_take, List.length_nil] at this; omega)])
   have hwl := wordL_len x
   have hcase : x = .many ∨ x = .one ∨ ∃ p, x = .byt p := by
    cases x with
    | many => exact Or.inl rfl
    | one => exact Or.inr (Or.inl rfl)
    | byt p => exact Or.inr (Or.inr ⟨p, rfl⟩)
   have hs0 : (jnG (ps.take k)).size ≤ 393984 := by omega
   clear hro hro2 hx hsz
   generalize jnG (ps.take k) = s0 at *
   obtain ⟨wd, hwd⟩ : ∃ wd, wd = (⟨(wordL x).toArray⟩ : ByteArray) := ⟨_, rfl⟩
   have hws : wd.size ≤ 1538 := by rw [hwd]; exact hwl
   rw [← hwd] at HS
   have HWD := Lib.hid hwd
   obtain ⟨kd, hkd⟩ : ∃ kd, kd = x.kind := ⟨_, rfl⟩
   obtain ⟨q, hq⟩ : ∃ q, q = x.set := ⟨_, rfl⟩
   rw [← hkd] at p0
   rw [← hq] at p1 p2 p3 p4
   have HKD := Lib.hid hkd
   have HQ := Lib.hid hq
   have HBA : Hid (Below w.heap.size w (wr.alloc (.cells #[.int .i64 kd, .int .u64 (sw q 0 : Nat), .int .u64 (sw q 1 : Nat), .int .u64 (sw q 2 : Nat), .int .u64 (sw q 3 : Nat)] 55))) := Lib.hid (HB.out.alloc HB.out.size _)
   have h16 : s0.size + 1 + wd.size ≤ 9223372036854775807 := by omega
   clear hwd hkd hq hwl
   rcases hcase with rfl | rfl | ⟨p, rfl⟩
   ·have e3 : (kd == 3) = true := by rw [HKD.out]; rfl
    have HWV : Hid (wd = ⟨#[42]⟩) := HWD
    by_cases hk0 : k = 0
    ·skip
     have HS2 : Hid (jnG (ps.take (k + 1)) = s0 ++ ⟨#[42]⟩) := Lib.hid (by rw [HS.out, if_pos hk0, HWV.out])
     have z1 : ¬ 0 < k := by omega
     have z2 : ¬ (0 : Int) < (k : Int) := by omega
     have z3 : decide ((0 : Int) < (k : Int)) = false := by simp; omega
     clear hk0
     go_wp2_with fail
     go_roundw
     case rel => exact ⟨k + 1, by rw [HS2.out], by go_num, by omega, HBA⟩
     case measure => simp [intOf]; omega
    ·skip
     have HS2 : Hid (jnG (ps.take (k + 1)) = (s0 ++ ⟨#[32]⟩) ++ ⟨#[42]⟩) := Lib.hid (by rw [HS.out, if_neg hk0, HWV.out])
     have z1 : 0 < k := by omega
     have z2 : (0 : Int) < (k : Int) := by omega
     have z3 : decide ((0 : Int) < (k : Int)) = true := by simp; omega
     clear hk0
     go_wp2_with fail
     go_roundw
     case rel => exact ⟨k + 1, by rw [HS2.out], by go_num, by omega, HBA⟩
     case measure => simp [intOf]; omega
   ·have e3 : (kd == 3) = false := by rw [HKD.out]; rfl
    have e2 : (kd == 2) = true := by rw [HKD.out]; rfl
    have HWV : Hid (wd = ⟨#[63]⟩) := HWD
    by_cases hk0 : k = 0
    ·skip
     have HS2 : Hid (jnG (ps.take (k + 1)) = s0 ++ ⟨#[63]⟩) := Lib.hid (by rw [HS.out, if_pos hk0, HWV.out])
     have z1 : ¬ 0 < k := by omega
     have z2 : ¬ (0 : Int) < (k : Int) := by omega
     have z3 : decide ((0 : Int) < (k : Int)) = false := by simp; omega
     clear hk0
     go_wp2_with fail
     go_roundw
     case rel => exact ⟨k + 1, by rw [HS2.out], by go_num, by omega, HBA⟩
     case measure => simp [intOf]; omega
    ·skip
     have HS2 : Hid (jnG (ps.take (k + 1)) = (s0 ++ ⟨#[32]⟩) ++ ⟨#[63]⟩) := Lib.hid (by rw [HS.out, if_neg hk0, HWV.out])
     have z1 : 0 < k := by omega
     have z2 : (0 : Int) < (k : Int) := by omega
     have z3 : decide ((0 : Int) < (k : Int)) = true := by simp; omega
     clear hk0
     go_wp2_with fail
     go_roundw
     case rel => exact ⟨k + 1, by rw [HS2.out], by go_num, by omega, HBA⟩
     case measure => simp [intOf]; omega
   ·have e3 : (kd == 3) = false := by rw [HKD.out]; rfl
    have e2 : (kd == 2) = false := by rw [HKD.out]; rfl
    have HWV : Hid (wd = textS q) := Lib.hid (by rw [HWD.out, HQ.out]; rfl)
    have hts : (textS q).size ≤ 1538 := by rw [← HWV.out]; exact hws
    by_cases hk0 : k = 0
    ·skip
     have HS2 : Hid (jnG (ps.take (k + 1)) = s0 ++ textS q) := Lib.hid (by rw [HS.out, if_pos hk0, HWV.out])
     have z1 : ¬ 0 < k := by omega
     have z2 : ¬ (0 : Int) < (k : Int) := by omega
     have z3 : decide ((0 : Int) < (k : Int)) = false := by simp; omega
     clear hk0
     go_wp2_with fail
     refine (HTX.out q _).mono ?_
     rintro e w3 ⟨rfl, hb3⟩
     have HB3 := Lib.hid (below_thn HBA.out (Nat.le_refl _) hb3)
     clear hb3
     go_wp2_with fail
     go_roundw
     case rel => exact ⟨k + 1, by rw [HS2.out], by go_num, by omega, HB3⟩
     case measure => simp [intOf]; omega
    ·skip
     have HS2 : Hid (jnG (ps.take (k + 1)) = (s0 ++ ⟨#[32]⟩) ++ textS q) := Lib.hid (by rw [HS.out, if_neg hk0, HWV.out])
     have z1 : 0 < k := by omega
     have z2 : (0 : Int) < (k : Int) := by omega
     have z3 : decide ((0 : Int) < (k : Int)) = true := by simp; omega
     clear hk0
     go_wp2_with fail
     refine (HTX.out q _).mono ?_
     rintro e w3 ⟨rfl, hb3⟩
     have HB3 := Lib.hid (below_thn HBA.out (Nat.le_refl _) hb3)
     clear hb3
     go_wp2_with fail
     go_roundw
     case rel => exact ⟨k + 1, by rw [HS2.out], by go_num, by omega, HB3⟩
     case measure => simp [intOf]; omega
  ·obtain rfl : k = n := by omega
   rw [HFIN.out]
   have hkI : ¬ (k : Int) < (k : Int) := by omega
   go_wp2
   go_ret
   exact ⟨rfl, HB.out⟩
  end Go.Proofs.YtopnckfmdjhbjaaGreatDoor
