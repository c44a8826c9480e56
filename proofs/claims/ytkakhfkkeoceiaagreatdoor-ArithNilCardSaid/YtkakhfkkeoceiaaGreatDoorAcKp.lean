import Derived.Test.YtkakhfkkeoceiaaGreatDoorKSp
import Derived.Maps.RangeWalk
namespace Go.Proofs.YtkakhfkkeoceiaaGreatDoor
open Go.RowKit Go.WideMaps Go.Maps
theorem grown_of_below {w w' : World} (h : Below w.heap.size w w') : w.grownBy w' none := ⟨h.os, h.tape, h.output, h.size, fun i hi _ => h.block i hi⟩
theorem keyS_inv {key : Value} {kl : Lit} (h : keyOf Tryz.prog 9 key = some kl) : ∃ x, key = .string x := by
 have hk : Tryz.prog.underlying 9 = some .string := Tryz.underlying9
 cases key <;> simp [keyOf, hk, mapKey] at h
 exact ⟨_, rfl⟩
theorem has_emptyA {H : Type} {P : Program} {k : TypeId} {R : Value → Option (DataW H × List MemPlace)} {w : World} {b : Nat} {D : DataW H} (h : w.ownsMap P k R b 0 D) (kl : Lit) : Maps.has D kl = false := by
 obtain ⟨es, clock, _, _, hs, rfl⟩ := h
 have he : es = #[] := Array.eq_empty_of_size_eq_zero (by omega)
 subst he
 rfl
set_option maxHeartbeats 1000000 in
theorem set_nil (n s : ByteArray) (w : World) : Calls Tryz.prog 16 #[.pointer none, .string n, .string s] w fun e w' => e = .returned (.bool false) ∧ w = w' := by
 go_enter Tryz.func16, Tryz.ntmps16
 go_wp2_with fail
 go_ret
 exact ⟨rfl, rfl⟩
set_option maxHeartbeats 1000000 in
theorem get_nil (n : ByteArray) (w : World) : Calls Tryz.prog 19 #[.pointer none, .string n] w fun e w' => e = .returned (.tuple #[.string ⟨#[]⟩, .bool false]) ∧ w = w' := by
 go_enter Tryz.func19, Tryz.ntmps19
 go_wp2_with fail
 go_ret2
 exact ⟨rfl, rfl⟩
structure KeS (mb mp : Nat) (X : World) (n : Nat) (D : DataW Unit) (left : Lit → Bool) (cnt : Nat) (Y : World) : Prop where
 rg : Y.ranges Tryz.prog 9 (plainElem (H := Unit) Tryz.prog 2) mp X.heap.size n D left cnt
 bl : Below X.heap.size X Y
 vs : Y.cell? ⟨mb, 0, none⟩ = some (.pointer none)
theorem KeS.below {mb mp : Nat} {X : World} {n : Nat} {D : DataW Unit} {left : Lit → Bool} {cnt : Nat} {Y Y' : World} (h : KeS mb mp X n D left cnt Y) (hb : Below Y.heap.size Y Y') : KeS mb mp X n D left cnt Y' :=
 ⟨h.rg.kept (grown_of_below hb) (by simp) (by simp), h.bl.trans (hb.mono h.bl.size), by rw [World.cell?_of_block (w := Y) (hb.block mb (cell_ltA h.vs))]; exact h.vs⟩
set_option maxRecDepth 100000 in
set_option maxHeartbeats 8000000 in
theorem keep_any (B mb mp : Nat) (v : Option Addr) (w0 X : World) (m : Ms) (s : Nat) (h : RunAt B mb mp v w0 m s X) (hv : v = none ∨ m.se = []) (htp : ∀ Y, Below B w0 Y → TP Y) :
  Calls Tryz.prog 66 #[.pointer (some ⟨mb, 0, none⟩)] X fun e w' => e = .returned (.tuple #[]) ∧ RunAt B mb mp v w0 m s w' := by
 have HR := Lib.hid h
 obtain ⟨D, hown, hrep⟩ := h.se
 have HEMP : Hid (m.se = [] → ∀ kl, Maps.has D kl = false) := Lib.hid (fun hse kl => has_emptyA (by rw [hse] at hown; exact hown) kl)
 have HTP := Lib.hid htp
 have HV := Lib.hid hv
 obtain ⟨st, hm, _⟩ := h.ma
 have c0 := hm.vs
 have c1 := hm.ms
 have hmlt := hm.lt
 clear h hrep htp hm hv
 go_enter Tryz.func66, Tryz.ntmps66
 go_wp2_with (first | (at_range; refine wpList_range_own _ rfl _ 119 rfl 9 2 lawS Tryz.underlying119 _ mp _ _ rfl hown ?_; intro w1 hrg hg hs))
 go_frame
 have HRG := Lib.hid hrg
 have hbl : Below X.heap.size X w1 := (Below.refl _ _).grown hg (Nat.le_refl _) (fun k hk => by cases hk)
 have HBL := Lib.hid hbl
 have HC0 := Lib.hid c0
 clear hrg hg hbl hown c1
 go_loopw [2] (fun _ wr => ∃ (left : Lit → Bool) (cnt : Nat), wr.ranges Tryz.prog 9 (plainElem (H := Unit) Tryz.prog 2) mp X.heap.size m.se.length D left cnt ∧ (m.se = [] → ∀ kl, left kl = false) ∧ Below X.heap.size X wr) (fun _ wr => wr.rangeLeft mp X.heap.size)
 case atStart => exact ⟨_, _, HRG.out, fun hse kl => HEMP.out hse kl, HBL.out⟩
 case round =>
  obtain ⟨left, cnt, hrg, hem, hnx⟩ := hrel
  have HNX := Lib.hid hnx
  have HEM := Lib.hid hem
  clear hnx hem
  go_wp2_with (first | (at_next; refine wpList_next_ranges _ rfl _ rfl 9 lawS (plainElem (H := Unit) Tryz.prog 2) Value.string (Value.int .i64) (fun key kl hk => ?_) (fun u y hu => ?_) mp X.heap.size m.se.length D left cnt rfl hrg ?_ ?_))
  ·exact keyS_inv hk
  ·obtain ⟨c, rfl, _⟩ := plainElem_int_inv Tryz.underlying2 hu
   exact ⟨c, rfl⟩
  ·intro _ hl0
   go_wp2_with fail
   go_end0
   exact ⟨rfl, HR.out.below HR.out.size HNX.out⟩
  ·intro x c kl yd yp w2 cnt2 hkey hlk hRc hat hrg2 hlt hg2 hs2 hen
   rcases HV.out with hv | hse
   case inr => rw [HEM.out hse kl] at hlk; cases hlk
   subst hv
   obtain ⟨c', ec, _, hwc⟩ := plainElem_int_inv Tryz.underlying2 hRc
   obtain rfl : c = c' := by injection ec
   obtain ⟨hc0, hc1⟩ := I64.of_wf hwc
   have hbl2 : Below X.heap.size X w2 := HNX.out.grown hg2 HNX.out.size (fun k hk => by rw [← Option.some.inj hk]; exact Nat.le_refl _)
   have HS0 : Hid (KeS mb mp X m.se.length D (fun z => left z && !z.sameKey kl) cnt2 w2) := Lib.hid ⟨hrg2, hbl2, by rw [World.cell?_of_block (w := X) (hbl2.block mb hmlt)]; exact HC0.out⟩
   have HTX : Hid (∀ Y, Below X.heap.size X Y → Calls Tryz.prog 100 #[.int .i64 c] Y fun e w' => e = .returned (.string ⟨(Lib.itoa c).toArray⟩) ∧ Below Y.heap.size Y w') := Lib.hid (fun Y hY => scText_any c Y hc0 hc1 (HTP.out Y (HR.out.ch.trans (hY.mono HR.out.size))))
   have HLT : Hid (cnt2 < cnt) := Lib.hid hlt
   have HLE : Hid (wr.rangeLeft mp X.heap.size = cnt) := Lib.hid hrg.left_eq
   have HHL : Hid (m.se = [] → ∀ z, (left z && !z.sameKey kl) = false) := Lib.hid (fun h z => by rw [HEM.out h z]; rfl)
   clear hkey hlk hRc hat hrg2 hlt hg2 hs2 hbl2 hwc ec hrg hc0 hc1
   go_wp2_with fail
   refine Reg.wp_region_vals (fun Y => KeS mb mp X m.se.length D (fun z => left z && !z.sameKey kl) cnt2 Y) (fun j => ([some (.pointer (some ⟨mb, 0, none⟩)), some (.pointer (some ⟨mb, 0, none⟩)), some (.pointer (some ⟨mb, 0, none⟩)), some (.pointer none), some (.string x), some (.int .i64 c), some (.string ⟨(Lib.itoa c).toArray⟩), some (.bool false)] : List (Option Value)).getD j none) (fun _ _ _ => True) (by kernel_rfl) (by kernel_rfl) (by kernel_rfl) (by kernel_rfl) ?rs0 ?rsE ?rsZ
   case rs0 => exact HS0.out.below (Below.refl _ _).drew
   case rsE =>
    refine Reg.EachV.plain rfl (fun T Y hS hk K hK => ?_) ?_
    ·skip
     have g0 : T[0]? = some (.pointer (some ⟨mb, 0, none⟩)) := hk.old 0 (by kernel_rfl) rfl
     have hK := hK _ Y hS (Reg.Is.of_val rfl) (fun _ _ _ h => h)
     clear hk
     go_simp
     exact hK
    refine Reg.EachV.plain rfl (fun T Y hS hk K hK => ?_) ?_
    ·skip
     have g14 : T[14]? = some (.pointer (some ⟨mb, 0, none⟩)) := hk.val 0 14 (by kernel_rfl) (by kernel_rfl) rfl
     have c0 := hS.vs
     have hK := hK _ Y hS (Reg.Is.of_val rfl) (fun _ _ _ h => h)
     clear hk
     go_simp
     exact hK
    refine Reg.EachV.plain rfl (fun T Y hS hk K hK => ?_) ?_
    ·skip
     have g15 : T[15]? = some (.pointer (some ⟨mb, 0, none⟩)) := hk.val 1 15 (by kernel_rfl) (by kernel_rfl) rfl
     have c0 := hS.vs
     have hml := cell_ltA c0
     have hK := hK _ Y hS (Reg.Is.of_val rfl) (fun _ _ _ h => h)
     clear hk
     go_simp
     exact hK
    refine Reg.EachV.plain rfl (fun T Y hS hk K hK => ?_) ?_
    ·skip
     have g16 : T[16]? = some (.pointer (some ⟨mb, 0, none⟩)) := hk.val 2 16 (by kernel_rfl) (by kernel_rfl) rfl
     have c0 := hS.vs
     have hK := hK _ Y hS (Reg.Is.of_val rfl) (fun _ _ _ h => h)
     clear hk
     go_simp
     exact hK
    refine Reg.EachV.plain rfl (fun T Y hS hk K hK => ?_) ?_
    ·skip
     have g2 : T[2]? = some (.string x) := hk.old 2 (by kernel_rfl) rfl
     have hK := hK _ Y hS (Reg.Is.of_val rfl) (fun _ _ _ h => h)
     clear hk
     go_simp
     exact hK
    refine Reg.EachV.plain rfl (fun T Y hS hk K hK => ?_) ?_
    ·skip
     have g3 : T[3]? = some (.int .i64 c) := hk.old 3 (by kernel_rfl) rfl
     have hK := hK _ Y hS (Reg.Is.of_val rfl) (fun _ _ _ h => h)
     clear hk
     go_simp
     exact hK
    refine Reg.EachV.plain rfl (fun T Y hS hk K hK => ?_) ?_
    ·skip
     have g19 : T[19]? = some (.int .i64 c) := hk.val 5 19 (by kernel_rfl) (by kernel_rfl) rfl
     clear hk
     go_simp
     refine (HTX.out Y hS.bl).mono ?_
     rintro e w1 ⟨rfl, hb⟩
     exact hK _ _ (hS.below hb) (Reg.Is.of_val rfl) (fun _ _ _ h => h)
    refine Reg.EachV.plain rfl (fun T Y hS hk K hK => ?_) ?_
    ·skip
     have g17 : T[17]? = some (.pointer none) := hk.val 3 17 (by kernel_rfl) (by kernel_rfl) rfl
     have g18 : T[18]? = some (.string x) := hk.val 4 18 (by kernel_rfl) (by kernel_rfl) rfl
     have g20 : T[20]? = some (.string ⟨(Lib.itoa c).toArray⟩) := hk.val 6 20 (by kernel_rfl) (by kernel_rfl) rfl
     clear hk
     go_simp
     refine (set_nil _ _ Y).mono ?_
     rintro e w1 ⟨rfl, rfl⟩
     exact hK _ _ (hS) (Reg.Is.of_val rfl) (fun _ _ _ h => h)
    exact Reg.EachV.nil
   case rsZ =>
    intro u w5 hS hI
    have e0 : u 0 = .pointer (some ⟨mb, 0, none⟩) := (hI 0 (by decide)).val rfl
    have e1 : u 1 = .pointer (some ⟨mb, 0, none⟩) := (hI 1 (by decide)).val rfl
    have e2 : u 2 = .pointer (some ⟨mb, 0, none⟩) := (hI 2 (by decide)).val rfl
    have e3 : u 3 = .pointer none := (hI 3 (by decide)).val rfl
    have e4 : u 4 = .string x := (hI 4 (by decide)).val rfl
    have e5 : u 5 = .int .i64 c := (hI 5 (by decide)).val rfl
    have e6 : u 6 = .string ⟨(Lib.itoa c).toArray⟩ := (hI 6 (by decide)).val rfl
    have e7 : u 7 = .bool false := (hI 7 (by decide)).val rfl
    clear hI
    simp only [Reg.putAll, Act.put, List.setIfInBounds_toArray, List.set_cons_succ, List.set_cons_zero, Nat.zero_add, Nat.reduceAdd, e0, e1, e2, e3, e4, e5, e6, e7]
    clear e0 e1 e2 e3 e4 e5 e6 e7
    have HS1 := Lib.hid hS
    clear hS
    go_wp2_with fail
    go_roundw
    case rel => exact ⟨_, cnt2, HS1.out.rg, HHL.out, HS1.out.bl⟩
    case measure => rw [HS1.out.rg.left_eq, HLE.out]; exact HLT.out
end Go.Proofs.YtkakhfkkeoceiaaGreatDoor
