import Derived.Test.YtnpkcllbpnmabaaGreatDoorScByte
import Derived.LoopTactic
import Derived.WalkMore
namespace Go.Proofs.YtnpkcllbpnmabaaGreatDoor
open Go.RowKit
theorem ret_vnb {k : IntKind} {v v' n n' : Int} {b b' : Bool} (h1 : v = v') (h2 : n = n') (h3 : b = b') : Ending.returned (.tuple #[.int k v, .int .i64 n, .bool b]) = .returned (.tuple #[.int k v', .int .i64 n', .bool b']) := by rw [h1, h2, h3]
theorem ret_vb {k : IntKind} {v v' : Int} {b b' : Bool} (h1 : v = v') (h3 : b = b') : Ending.returned (.tuple #[.int k v, .bool b]) = .returned (.tuple #[.int k v', .bool b']) := by rw [h1, h3]
def Row (w : World) (b o : Nat) (l : List Int) : Prop := ∀ i, i < l.length → w.cell? ⟨b, o + i, none⟩ = some (.int .u8 (l.getD i 0))
def bys (s : ByteArray) : List Int := s.data.toList.map fun c => (c.toNat : Int)
theorem bys_length (s : ByteArray) : (bys s).length = s.size := by unfold bys; simp
theorem bys_getD (s : ByteArray) (k : Nat) (h : k < s.size) : (bys s).getD k 0 = (s[k].toNat : Int) := by
 unfold bys
 have h' : k < s.data.toList.length := by simpa using h
 rw [List.getD, List.getElem?_map, List.getElem?_eq_getElem h']
 rfl
theorem bys_byt (s : ByteArray) : Byt (bys s) := by
 intro i
 by_cases h : i < s.size
 ·rw [bys_getD s i h]
  have := s[i].toNat_lt
  omega
 ·have : (bys s).getD i 0 = 0 := by
   rw [List.getD, List.getElem?_eq_none (by rw [bys_length]; omega)]; rfl
  rw [this]; omega
set_option maxHeartbeats 4000000 in
theorem readS_any (s : ByteArray) (base most : Int) (w : World) (hb : 2 ≤ base) (hb2 : base ≤ 16) (hm : 16 ≤ most) (hm2 : most ≤ 9223372036854775808)
  (hl : s.size ≤ 9223372036854775807) :
  Calls Tryz.prog 101 #[.string s, .int .u64 base, .int .u64 most] w
   fun e w' => e = .returned (.tuple #[.int .u64 (rV base most (bys s)), .int .i64 (rN base (bys s)), .bool (rO base most (bys s))]) ∧ w = w' := by
 have hlen := bys_length s
 have HL := Lib.hid hlen
 clear hlen
 go_enter Tryz.func101, Tryz.ntmps101
 go_wp2
 go_step3
 go_wp2
 go_step3
 go_wp2
 go_loop [6, 7, 8] (fun v i ov => ∃ k : Nat, k ≤ s.size ∧ (∀ j, j < k → dig? base ((bys s).getD j 0) = true) ∧ i = .int .i64 k ∧ v = .int .u64 (cut most (valK base (bys s) k)) ∧ ov = .bool (ovr most (valK base (bys s) k))) (fun _ i _ => s.size - (intOf i).toNat)
 case atStart => exact ⟨0, Nat.zero_le _, fun j hj => absurd hj (by omega), rfl, by rw [valK_zero]; unfold cut; rw [if_pos (by omega)], by rw [valK_zero]; unfold ovr; simp; omega⟩
 case round =>
  obtain ⟨k, hk, hd, rfl, rfl, rfl⟩ := hrel
  have HD := Lib.hid hd
  clear hd
  by_cases hlt : k < s.size
  ·have hby := bys_byt s k
   have hgs := bys_getD s k hlt
   have HS := Lib.hid (valK_succ base (bys s) k (by rw [HL.out]; exact hlt))
   have hv0 := valK_nonneg base (by omega) (bys s) k (by rw [HL.out]; omega)
   generalize hV : valK base (bys s) k = V at hv0 HS ⊢
   have HW := Lib.hid hV
   clear hV
   rw [hgs] at hby HS
   have HE := Lib.hid hgs
   clear hgs
   obtain ⟨y0, y1⟩ := hby
   obtain ⟨d0, d1⟩ := dgt_bd (s[k].toNat : Int)
   obtain ⟨v0, v1⟩ := cut_bd most V hv0 (by omega)
   by_cases hdb : dgt (s[k].toNat : Int) < base
   ·by_cases hq : (most - dgt (s[k].toNat : Int)) / base < cut most V
    ·have HO := Lib.hid (step_over most (dgt (s[k].toNat : Int)) base V hb d0 hdb hv0 hm hb2 hq)
     generalize hcv : cut most V = v at *
     generalize hov : ovr most V = ov at *
     clear hcv hov
     go_wp2_with (go_at_call 107; refine (digit_any _ _ y0 y1).mono ?_; rintro e w' ⟨rfl, rfl⟩)
     go_round
     case rel =>
      refine ⟨k + 1, by omega, fun j hj => ?_, by go_num, ?_, ?_⟩
      ·by_cases hjk : j = k
       ·rw [hjk, HE.out]; unfold dig?; simpa using hdb
       ·exact HD.out j (by omega)
      ·rw [HS.out, HO.out.1]
      ·rw [HS.out, HO.out.2]
     case measure => simp [intOf]; omega
    ·have HO := Lib.hid (step_in most (dgt (s[k].toNat : Int)) base V hb d0 hdb hv0 hm hb2 hq)
     have hvb : cut most V * base + dgt (s[k].toNat : Int) ≤ most := by rw [HO.out.2.1]; exact HO.out.2.2.1
     have hvb0 : 0 ≤ cut most V * base := by rw [HO.out.2.1]; exact Int.mul_nonneg hv0 (by omega)
     have hov : ovr most V = false := HO.out.2.2.2.2.2
     have HO2 : Hid (cut most (V * base + dgt (s[k].toNat : Int)) = cut most V * base + dgt (s[k].toNat : Int) ∧ ovr most (V * base + dgt (s[k].toNat : Int)) = false) := ⟨by rw [HO.out.2.2.2.1, HO.out.2.1], HO.out.2.2.2.2.1⟩
     clear HO
     rw [hov]
     generalize hcv : cut most V = v at *
     clear hcv hov
     go_wp2_with (go_at_call 107; refine (digit_any _ _ y0 y1).mono ?_; rintro e w' ⟨rfl, rfl⟩)
     go_round
     case rel =>
      refine ⟨k + 1, by omega, fun j hj => ?_, by go_num, ?_, ?_⟩
      ·by_cases hjk : j = k
       ·rw [hjk, HE.out]; unfold dig?; simpa using hdb
       ·exact HD.out j (by omega)
      ·rw [HS.out, HO2.out.1]
      ·rw [HS.out, HO2.out.2]
     case measure => simp [intOf]; omega
   ·have HR : Hid (rN base (bys s) = k) := pre_of _ (bys s) k (by rw [HL.out]; omega) HD.out (fun _ => by rw [HE.out]; unfold dig?; simpa using hdb)
    have HV : Hid (rV base most (bys s) = cut most V ∧ rO base most (bys s) = ovr most V) := by unfold rV rO; rw [HR.out, HW.out]; exact ⟨rfl, rfl⟩
    go_wp2_with (go_at_call 107; refine (digit_any _ _ y0 y1).mono ?_; rintro e w' ⟨rfl, rfl⟩)
    rw [Exit.noGoto_ret]
    go_ret3
    exact ⟨ret_vnb HV.out.1.symm (by rw [HR.out]) HV.out.2.symm, rfl⟩
  ·have hks : k = s.size := by omega
   subst hks
   have HR : Hid (rN base (bys s) = s.size) := pre_of _ (bys s) s.size (by rw [HL.out]; omega) HD.out (fun h => absurd h (by rw [HL.out]; omega))
   have HV : Hid (rV base most (bys s) = cut most (valK base (bys s) s.size) ∧ rO base most (bys s) = ovr most (valK base (bys s) s.size)) := by unfold rV rO; rw [HR.out]; exact ⟨rfl, rfl⟩
   go_wp2
   go_ret3
   exact ⟨ret_vnb HV.out.1.symm (by rw [HR.out]) HV.out.2.symm, rfl⟩
end Go.Proofs.YtnpkcllbpnmabaaGreatDoor
