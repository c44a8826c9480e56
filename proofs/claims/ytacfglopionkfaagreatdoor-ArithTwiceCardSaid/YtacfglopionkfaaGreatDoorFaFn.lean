import Derived.Test.YtacfglopionkfaaGreatDoorKFa
import Derived.Defers
import Derived.Recover
import Derived.RegionTactic
import Derived.ChangeAlike
namespace Go.Proofs.YtacfglopionkfaaGreatDoor
set_option maxRecDepth 100000
open Go.RowKit Go.Extern.Stop Go.Stop Go.Extern
set_option maxHeartbeats 4000000 in
theorem Pv (s:Nat→Addr) (w:World) (hs:o7 w s) (k:Nat) (h1:1≤k) (h2:k≤21):
  Calls Tryz.prog 71 #[.int .i64 k] w fun e w'=>e= .returned (bot (s k))∧w=w':=by
 have hv:=hs.var k h1 h2
 have HS:=Lib.hid hs
 clear hs
 unfold bot
 obtain rfl | rfl | rfl | rfl | rfl | rfl | rfl | rfl | rfl | rfl | rfl | rfl | rfl | rfl | rfl | rfl | rfl | rfl | rfl | rfl | rfl:k=1∨k=2∨k=3∨k=4∨k=5∨k=6∨k=7∨k=8∨k=9∨k=10∨k=11∨k=12∨k=13∨k=14∨k=15∨k=16∨k=17∨k=18∨k=19∨k=20∨k=21:=by omega
 all_goals
  try simp only [Nat.reduceSub] at hv
  go_enter Tryz.func71,Tryz.ntmps71
  go_wp2
  go_ret
  exact ⟨rfl,rfl⟩
theorem PG (p:Addr) (w:World):
  CallsD Tryz.prog 111 #[.pointer (some p)] .returning w fun e u' w'=>e= .returned (.tuple #[])∧u'= .returning∧w'=w:=by
 refine callsD_of_wpS Tryz.func111 rfl fun c₀ cs hu=>?_
 apply wpS_seq
 apply wpS_region
 simp [wpOpsS,go_sem,recoverD,hu,Tryz.ntmps111,Exit.thenS]
 refine wpS_cond (t:=false) (by simp [Act.eval,Array.replicate]) ?_
 simp only [Bool.false_eq_true,if_false]
 refine wpS_of_wp (wp_skip ?_)
 cases c₀
 simp_all [bodyPostS,results,Tryz.results111]
theorem yV (p:Addr) (w:World):
  CallsD Tryz.prog 82 #[.pointer (some p)] .returning w fun e u' w'=>e= .returned (.tuple #[])∧u'= .returning∧w'=w:=by
 refine callsD_of_wpS Tryz.func82 rfl fun c₀ cs hu=>?_
 apply wpS_seq
 apply wpS_region
 simp [wpOpsS,go_sem,recoverD,hu,Tryz.ntmps82,Exit.thenS]
 refine wpS_cond (t:=false) (by simp [Act.eval,Array.replicate]) ?_
 simp only [Bool.false_eq_true,if_false]
 refine wpS_of_wp (wp_skip ?_)
 cases c₀
 simp_all [bodyPostS,results,Tryz.results82]
theorem yU (p:Addr) (w:World):
  CallsD Tryz.prog 84 #[.pointer (some p)] .returning w fun e u' w'=>e= .returned (.tuple #[])∧u'= .returning∧w'=w:=by
 refine callsD_of_wpS Tryz.func84 rfl fun c₀ cs hu=>?_
 apply wpS_seq
 apply wpS_region
 simp [wpOpsS,go_sem,recoverD,hu,Tryz.ntmps84,Exit.thenS]
 refine wpS_cond (t:=false) (by simp [Act.eval,Array.replicate]) ?_
 simp only [Bool.false_eq_true,if_false]
 refine wpS_of_wp (wp_skip ?_)
 cases c₀
 simp_all [bodyPostS,results,Tryz.results84]
set_option maxHeartbeats 4000000 in
theorem FT (l:List (Bool × Int)) (v:Value) (a:Addr) (s:Nat→Addr) (w:World) (hs:o7 w s) (hc:kJ w l v (bot a)) (k:Nat) (h1:1≤k) (h2:k≤21) (q:Bool)
  (heq: ∀W,Below w.heap.size w W→(binOp .eql 25 (.iface 276 (.pointer (some a))) (.iface 276 (.pointer (some (s k))))).run Tryz.prog W= .ok (.bool q) W):
  Calls Tryz.prog 81 #[v,.int .i64 k] w fun e w'=>e= .returned (.bool q)∧Below w.heap.size w w':=by
 have hmf: ∀(fn:Fn) (first cap:Array Value) (w:World),(Instr.makeFunc fn first cap).run Tryz.prog w= .ok (.func fn first cap) w:=fun _ _ _ _=>rfl
 have hb1:Below w.heap.size w (w.alloc (.cells #[.bool false] 4)):=(Below.refl _ _).alloc (Nat.le_refl _) _
 have HO:=Lib.hid (Pv s _ (hs.below hb1) k h1 h2)
 have HE:=Lib.hid (PO l v a (s k) (w.alloc (.cells #[.bool false] 4)) (hc.below hb1) q (heq _ hb1))
 clear hs hc hb1 h1 h2 heq
 unfold bot at*
 go_enter_defers Tryz.func81,Tryz.ntmps81
 go_wp2_with (first | (go_at_call 71;refine HO.out.mono ?_;rintro e w' ⟨rfl,rfl⟩) | (go_at_call 112;refine HE.out.mono ?_;rintro e w' ⟨rfl,rfl⟩))
 refine leaves_cons (f:=111) (args:= #[.pointer (some ⟨w.heap.size,0,none⟩)]) (by simp) (by simp [go_sem]) ?_
 refine (PG ⟨w.heap.size,0,none⟩ _).mono ?_
 rintro e u' w'' ⟨rfl,rfl,rfl⟩
 simp [Leaves,settle,results,Tryz.results81,go_sem]
 exact (Below.refl _ _).alloc (Nat.le_refl _) _
theorem oW (w:World) (a b:Addr) (v:Value):((w.setCell a v).cell? b).isSome=(w.cell? b).isSome:=by
 simp only [World.cell?,World.setCell,Array.getElem?_modify]
 by_cases h:a.block=b.block
 ·simp only [h,if_true]
  cases w.heap[b.block]? with
  | none=>rfl
  | some o=>
   cases o with
   | cells c t f=>
    by_cases hs:b.spot.isSome
    ·simp [hs]
    ·by_cases ha:a.spot.isSome
     ·simp [ha]
     ·simp only [Option.map_some,hs,ha]
      simp only [Bool.false_eq_true,if_false,Array.getElem?_setIfInBounds]
      by_cases ho:a.off=b.off
      ·simp only [ho,if_true]
       by_cases hz:b.off<c.size
       ·simp [hz]
       ·simp [hz]
      ·simp [ho]
   | _=>rfl
 ·simp [h]
theorem vw {w w1:World} (a b:Value) (T U:TypeId) (hb:Below ((w.alloc (.cells #[a] T)).alloc (.cells #[b] U)).heap.size ((w.alloc (.cells #[a] T)).alloc (.cells #[b] U)) w1):
  w1.cell? ⟨w.heap.size,0,none⟩=some a∧w1.cell? ⟨w.heap.size+1,0,none⟩=some b∧w1.frozen? ⟨w.heap.size,0,none⟩=false∧w1.frozen? ⟨w.heap.size+1,0,none⟩=false∧w.heap.size+1<w1.heap.size∧Below w.heap.size w w1:=by
 refine ⟨?_,?_,?_,?_,?_,?_⟩
 ·rw [hb.cell (by simp;omega)];simp
 ·rw [hb.cell (by simp)];simp
 ·rw [hb.frozen (by simp;omega)];simp
 ·rw [hb.frozen (by simp)];simp
 ·have:=hb.size;simp at this;omega
 ·exact Below.step (((Below.refl _ _).alloc (Nat.le_refl _) _).alloc (by simp) _) hb
set_option maxHeartbeats 4000000 in
theorem BP (l:List (Bool × Int)) (v:Value) (a:Addr) (s:Nat→Addr) (w:World) (hs:o7 w s) (hc:kJ w l v (bot a)) (n:Int) (hn:aO false l=some n):
  Calls Tryz.prog 45 #[v] w fun e w'=> ∃k x,e= .returned (.tuple #[.pointer (some ⟨k,0,none⟩),.bool true])∧w.heap[k]? =some (.cells #[x,.int .i64 n] 88)∧Below w.heap.size w w':=by
 have hmf: ∀(fn:Fn) (first cap:Array Value) (w:World),(Instr.makeFunc fn first cap).run Tryz.prog w= .ok (.func fn first cap) w:=fun _ _ _ _=>rfl
 have hb1:Below w.heap.size w ((w.alloc (.cells #[.pointer none] 84)).alloc (.cells #[.bool false] 4)):=((Below.refl _ _).alloc (Nat.le_refl _) _).alloc (by simp) _
 have HE:=Lib.hid (Mc l v a ⟨w.heap.size,0,none⟩ (.pointer none) s w ((w.alloc (.cells #[.pointer none] 84)).alloc (.cells #[.bool false] 4)) hb1 (hs.below hb1) hc (by simp) (by simp) n hn)
 have HB:=Lib.hid hb1
 clear hs hc hb1 hn
 unfold bot at*
 go_enter_defers Tryz.func45,Tryz.ntmps45
 go_wp2_with (go_at_call 83;refine HE.out.mono ?_;rintro e w' ⟨rfl,k,x,w1,hk,hb,rfl⟩;obtain ⟨c0,c1,f0,f1,hz,hb0⟩:=vw _ _ _ _ hb;have HK:=Lib.hid hk;have HB2:=Lib.hid hb0;clear hb hk hb0)
 go_region
 all_goals
  go_wp2
  refine leaves_cons (f:=82) (args:= #[.pointer (some ⟨w.heap.size+1,0,none⟩)]) (by simp) (by simp [go_sem]) ?_
  refine (yV ⟨w.heap.size+1,0,none⟩ _).mono ?_
  rintro e u' w'' ⟨rfl,rfl,rfl⟩
  simp [Leaves,settle,results,Tryz.results45,go_sem,oW,c0,c1]
  refine ⟨⟨x,HK.out⟩,?_⟩
  repeat' first | exact HB2.out | refine Below.drew ?_ | refine Below.setCell ?_ ?_ _ | (simp;done)
set_option maxHeartbeats 4000000 in
theorem yS (l:List (Bool × Int)) (v:Value) (a:Addr) (s:Nat→Addr) (w:World) (hs:o7 w s) (hc:kJ w l v (bot a)) (hn:aO false l=none):
  Calls Tryz.prog 45 #[v] w fun e w'=>e= .returned (.tuple #[.pointer none,.bool false])∧Below w.heap.size w w':=by
 have hmf: ∀(fn:Fn) (first cap:Array Value) (w:World),(Instr.makeFunc fn first cap).run Tryz.prog w= .ok (.func fn first cap) w:=fun _ _ _ _=>rfl
 have hb1:Below w.heap.size w ((w.alloc (.cells #[.pointer none] 84)).alloc (.cells #[.bool false] 4)):=((Below.refl _ _).alloc (Nat.le_refl _) _).alloc (by simp) _
 have HE:=Lib.hid (Il l v a ⟨w.heap.size,0,none⟩ (.pointer none) s w ((w.alloc (.cells #[.pointer none] 84)).alloc (.cells #[.bool false] 4)) hb1 (hs.below hb1) hc (by simp) (by simp) hn)
 clear hs hc hb1 hn
 unfold bot at*
 go_enter_defers Tryz.func45,Tryz.ntmps45
 go_wp2_with (go_at_call 83;refine HE.out.mono ?_;rintro e w1 ⟨rfl,hb⟩;obtain ⟨c0,c1,f0,f1,hz,hb0⟩:=vw _ _ _ _ hb;have HB2:=Lib.hid hb0;clear hb hb0)
 go_region
 all_goals
  go_wp2
  refine leaves_cons (f:=82) (args:= #[.pointer (some ⟨w.heap.size+1,0,none⟩)]) (by simp) (by simp [go_sem]) ?_
  refine (yV ⟨w.heap.size+1,0,none⟩ _).mono ?_
  rintro e u' w'' ⟨rfl,rfl,rfl⟩
  simp [Leaves,settle,results,Tryz.results45,go_sem,c0,c1]
  repeat' first | exact HB2.out | refine Below.drew ?_ | refine Below.setCell ?_ ?_ _ | (simp;done)
set_option maxHeartbeats 4000000 in
theorem BO (l:List (Bool × Int)) (v:Value) (a:Addr) (s:Nat→Addr) (w:World) (hs:o7 w s) (hc:kJ w l v (bot a)) (n:Int) (hn:aO true l=some n):
  Calls Tryz.prog 46 #[v] w fun e w'=> ∃k x,e= .returned (.tuple #[.pointer (some ⟨k,0,none⟩),.bool true])∧w.heap[k]? =some (.cells #[x,.int .i64 n] 93)∧Below w.heap.size w w':=by
 have hmf: ∀(fn:Fn) (first cap:Array Value) (w:World),(Instr.makeFunc fn first cap).run Tryz.prog w= .ok (.func fn first cap) w:=fun _ _ _ _=>rfl
 have hb1:Below w.heap.size w ((w.alloc (.cells #[.pointer none] 89)).alloc (.cells #[.bool false] 4)):=((Below.refl _ _).alloc (Nat.le_refl _) _).alloc (by simp) _
 have HE:=Lib.hid (L9 l v a ⟨w.heap.size,0,none⟩ (.pointer none) s w ((w.alloc (.cells #[.pointer none] 89)).alloc (.cells #[.bool false] 4)) hb1 (hs.below hb1) hc (by simp) (by simp) n hn)
 have HB:=Lib.hid hb1
 clear hs hc hb1 hn
 unfold bot at*
 go_enter_defers Tryz.func46,Tryz.ntmps46
 go_wp2_with (go_at_call 83;refine HE.out.mono ?_;rintro e w' ⟨rfl,k,x,w1,hk,hb,rfl⟩;obtain ⟨c0,c1,f0,f1,hz,hb0⟩:=vw _ _ _ _ hb;have HK:=Lib.hid hk;have HB2:=Lib.hid hb0;clear hb hk hb0)
 go_region
 all_goals
  go_wp2
  refine leaves_cons (f:=84) (args:= #[.pointer (some ⟨w.heap.size+1,0,none⟩)]) (by simp) (by simp [go_sem]) ?_
  refine (yU ⟨w.heap.size+1,0,none⟩ _).mono ?_
  rintro e u' w'' ⟨rfl,rfl,rfl⟩
  simp [Leaves,settle,results,Tryz.results46,go_sem,oW,c0,c1]
  refine ⟨⟨x,HK.out⟩,?_⟩
  repeat' first | exact HB2.out | refine Below.drew ?_ | refine Below.setCell ?_ ?_ _ | (simp;done)
set_option maxHeartbeats 4000000 in
theorem yR (l:List (Bool × Int)) (v:Value) (a:Addr) (s:Nat→Addr) (w:World) (hs:o7 w s) (hc:kJ w l v (bot a)) (hn:aO true l=none):
  Calls Tryz.prog 46 #[v] w fun e w'=>e= .returned (.tuple #[.pointer none,.bool false])∧Below w.heap.size w w':=by
 have hmf: ∀(fn:Fn) (first cap:Array Value) (w:World),(Instr.makeFunc fn first cap).run Tryz.prog w= .ok (.func fn first cap) w:=fun _ _ _ _=>rfl
 have hb1:Below w.heap.size w ((w.alloc (.cells #[.pointer none] 89)).alloc (.cells #[.bool false] 4)):=((Below.refl _ _).alloc (Nat.le_refl _) _).alloc (by simp) _
 have HE:=Lib.hid (Ik l v a ⟨w.heap.size,0,none⟩ (.pointer none) s w ((w.alloc (.cells #[.pointer none] 89)).alloc (.cells #[.bool false] 4)) hb1 (hs.below hb1) hc (by simp) (by simp) hn)
 clear hs hc hb1 hn
 unfold bot at*
 go_enter_defers Tryz.func46,Tryz.ntmps46
 go_wp2_with (go_at_call 83;refine HE.out.mono ?_;rintro e w1 ⟨rfl,hb⟩;obtain ⟨c0,c1,f0,f1,hz,hb0⟩:=vw _ _ _ _ hb;have HB2:=Lib.hid hb0;clear hb hb0)
 go_region
 all_goals
  go_wp2
  refine leaves_cons (f:=84) (args:= #[.pointer (some ⟨w.heap.size+1,0,none⟩)]) (by simp) (by simp [go_sem]) ?_
  refine (yU ⟨w.heap.size+1,0,none⟩ _).mono ?_
  rintro e u' w'' ⟨rfl,rfl,rfl⟩
  simp [Leaves,settle,results,Tryz.results46,go_sem,c0,c1]
  repeat' first | exact HB2.out | refine Below.drew ?_ | refine Below.setCell ?_ ?_ _ | (simp;done)
end Go.Proofs.YtacfglopionkfaaGreatDoor
