import Derived.Test.YtacfglopionkfaaGreatDoorKWr
import Derived.Great.BuildSlice
import Derived.Great.Ranges
import Derived.Maps.Own
import Derived.Deep.RegionHeld3
namespace Go.Proofs.YtacfglopionkfaaGreatDoor
set_option maxRecDepth 100000
open Go.RowKit Go.WideMaps Go.Maps
def fH (v mp:Value):Array Value:=(v::mp::List.replicate 1027 (.int .i64 0)).toArray
structure jM (w:World) (b:Nat) (v mp:Value) (st:Nat→Int) (h a s:Nat):Prop where
 vs:w.cell? ⟨b,0,none⟩=some v
 ms:w.cell? ⟨b,1,none⟩=some mp
 sk: ∀i,i<1024→w.cell? ⟨b,2+i,none⟩=some (.int .i64 (st i))
 hh:w.cell? ⟨b,1026,none⟩=some (.int .i64 h)
 aa:w.cell? ⟨b,1027,none⟩=some (.int .i64 a)
 ss:w.cell? ⟨b,1028,none⟩=some (.int .i64 s)
 fz: ∀o,w.frozen? ⟨b,o,none⟩=false
theorem Af (w:World) (o o':Obj):((w.alloc o).alloc o').heap[w.heap.size+1]? =some o':=by
 have:=heap_alloc_last (w.alloc o) o'
 simpa using this
theorem LJ {w:World} {b:Nat} {v mp:Value} {t:TypeId} (h:w.heap[b]? =some (.cells (fH v mp) t (0,0))):jM w b v mp (fun _=>0) 0 0 0:=by
 have at_: ∀j,j<1027→w.cell? ⟨b,2+j,none⟩=some (.int .i64 0):=fun j hj=>by
  simp only [World.cell?,h]
  show (fH v mp)[2+j]? =_
  unfold fH
  rw [List.getElem?_toArray,show 2+j=j+1+1 by omega,List.getElem?_cons_succ,List.getElem?_cons_succ,List.getElem?_replicate,if_pos hj]
 exact {
  vs:=by
   simp only [World.cell?,h]
   show (fH v mp)[0]? =_
   unfold fH
   rw [List.getElem?_toArray]
   simp only [List.getElem?_cons_zero]
  ms:=by
   simp only [World.cell?,h]
   show (fH v mp)[1]? =_
   unfold fH
   rw [List.getElem?_toArray]
   simp only [List.getElem?_cons_zero,List.getElem?_cons_succ]
  sk:=fun i hi=>at_ i (by omega)
  hh:=at_ 1024 (by omega)
  aa:=at_ 1025 (by omega)
  ss:=at_ 1026 (by omega)
  fz:=fun o=>by simp [World.frozen?,h]}
theorem EU (a:Option Addr) (m:Nat):Tryz.prog.built 121 [(0,.pointer a),(1,.map (some m))]=some (fH (.pointer a) (.map (some m))):=by kernel_rfl
theorem aQ {w:World} {b o j:Nat} {x u:Value} (h:w.cell? ⟨b,j,none⟩=some u) (hne:o≠j):(w.setCell ⟨b,o,none⟩ x).cell? ⟨b,j,none⟩=some u:=
 (World.cell?_setCell_other _ _ _ _ (fun e=>hne (congrArg Addr.off e))).trans h
theorem oL {w:World} {b o:Nat} {x u:Value} (h:w.cell? ⟨b,o,none⟩=some u):(w.setCell ⟨b,o,none⟩ x).cell? ⟨b,o,none⟩=some x:=World.cell?_setCell_same' _ _ _ (by rw [h];rfl)
theorem jM.set {w:World} {b:Nat} {v mp:Value} {st:Nat→Int} {h a s:Nat} (m:jM w b v mp st h a s) (n:Int) (hh:h<1024):
  jM ((w.setCell ⟨b,2+h,none⟩ (.int .i64 n)).setCell ⟨b,1026,none⟩ (.int .i64 ((h:Int)+1))) b v mp (fun i=>if i=h then n else st i) (h+1) a s where
 vs:=aQ (aQ m.vs (by omega)) (by omega)
 ms:=aQ (aQ m.ms (by omega)) (by omega)
 sk i hi:=by
  refine aQ ?_ (by omega)
  by_cases e:i=h
  ·subst e
   rw [if_pos rfl]
   exact oL (m.sk i hi)
  ·rw [if_neg e]
   exact aQ (m.sk i hi) (by omega)
 hh:=oL (aQ m.hh (by omega))
 aa:=aQ (aQ m.aa (by omega)) (by omega)
 ss:=aQ (aQ m.ss (by omega)) (by omega)
 fz o:=by rw [World.frozen?_setCell,World.frozen?_setCell];exact m.fz o
theorem jM.less {w:World} {b:Nat} {v mp:Value} {st:Nat→Int} {h a s:Nat} (m:jM w b v mp st (h+1) a s):
  jM (w.setCell ⟨b,1026,none⟩ (.int .i64 h)) b v mp st h a s where
 vs:=aQ m.vs (by omega)
 ms:=aQ m.ms (by omega)
 sk i hi:=aQ (m.sk i hi) (by omega)
 hh:=oL m.hh
 aa:=aQ m.aa (by omega)
 ss:=aQ m.ss (by omega)
 fz o:=by rw [World.frozen?_setCell];exact m.fz o
theorem jM.drew {w:World} {b:Nat} {v mp:Value} {st:Nat→Int} {h a s:Nat} (m:jM w b v mp st h a s):jM w.drew b v mp st h a s:=⟨m.vs,m.ms,m.sk,m.hh,m.aa,m.ss,m.fz⟩
theorem jM.drewN {w:World} {b:Nat} {v mp:Value} {st:Nat→Int} {h a s:Nat} (m:jM w b v mp st h a s) (n:Nat):jM (w.drewN n) b v mp st h a s:=⟨m.vs,m.ms,m.sk,m.hh,m.aa,m.ss,m.fz⟩
theorem Ch.drewN (b:Nat) (w:World) (n:Nat):Ch b w (w.drewN n):=⟨below_drewN (Below.refl _ _) n,fun _ _ _=>rfl⟩
set_option maxHeartbeats 2000000 in
theorem push_any (b:Nat) (v mp:Value) (st:Nat→Int) (h a s:Nat) (n:Int) (w:World) (m:jM w b v mp st h a s) (hh:h<1024):
  Calls Tryz.prog 137 #[.pointer (some ⟨b,0,none⟩),.int .i64 n] w fun e w'=>e= .returned (.tuple #[])∧jM w' b v mp (fun i=>if i=h then n else st i) (h+1) a s∧Ch b w w':=by
 have HM:=Lib.hid m
 have hlt:(h:Int)<1024:=by omega
 clear m
 go_enter Tryz.func137,Tryz.ntmps137
 go_wp2_with fail
 have HS:Hid (w.drew.cell? ⟨b,1026,none⟩=some (.int .i64 h)):=Lib.hid HM.out.hh
 refine wp_region_held (S:=fun X=>X.cell? ⟨b,1026,none⟩=some (.int .i64 h)) (by kernel_rfl) ?_
 try (change wpAnyH _ _ _ _ _ _ _ _ (World.drew _))
 refine wpAnyH_take (i:=0) (v:= .pointer (some ⟨b,0,none⟩)) rfl (by kernel_rfl) (by kernel_rfl) (by kernel_rfl) (fun _ _ _ h=>h) (Or.inl ⟨by kernel_rfl,?_⟩) HS.out ?_
 ·intro X hS;have hS1:X.cell? ⟨b,1026,none⟩=some (.int .i64 h):=hS;clear hS;go_simp
 try simp only [Act.put,List.setIfInBounds_toArray]
 refine wpAnyH_take (i:=1) (v:= .pointer (some ⟨b,0,none⟩)) rfl (by kernel_rfl) (by kernel_rfl) (by kernel_rfl) (fun _ _ _ h=>h) (Or.inl ⟨by kernel_rfl,?_⟩) HS.out ?_
 ·intro X hS;have hS1:X.cell? ⟨b,1026,none⟩=some (.int .i64 h):=hS;clear hS;go_simp
 try simp only [Act.put]
 refine wpAnyH_take (i:=2) (v:= .pointer (some ⟨b,0,none⟩)) rfl (by kernel_rfl) (by kernel_rfl) (by kernel_rfl) (fun _ _ _ h=>h) (Or.inl ⟨by kernel_rfl,?_⟩) HS.out ?_
 ·intro X hS;have hS1:X.cell? ⟨b,1026,none⟩=some (.int .i64 h):=hS;clear hS;go_simp
 try simp only [Act.put]
 refine wpAnyH_take (i:=3) (v:= .pointer (some ⟨b,1026,none⟩)) rfl (by kernel_rfl) (by kernel_rfl) (by kernel_rfl) (fun _ _ _ h=>h) (Or.inl ⟨by kernel_rfl,?_⟩) HS.out ?_
 ·intro X hS;have hS1:X.cell? ⟨b,1026,none⟩=some (.int .i64 h):=hS;clear hS;go_simp
 try simp only [Act.put]
 refine wpAnyH_take (i:=4) (v:= .int .i64 (h:Int)) rfl (by kernel_rfl) (by kernel_rfl) (by kernel_rfl) (fun _ _ _ h=>h) (Or.inl ⟨by kernel_rfl,?_⟩) HS.out ?_
 ·intro X hS;have hS1:X.cell? ⟨b,1026,none⟩=some (.int .i64 h):=hS;clear hS;go_simp
 try simp only [Act.put]
 refine wpAnyH_take (i:=5) (v:= .int .i64 n) rfl (by kernel_rfl) (by kernel_rfl) (by kernel_rfl) (fun _ _ _ h=>h) (Or.inl ⟨by kernel_rfl,?_⟩) HS.out ?_
 ·intro X hS;have hS1:X.cell? ⟨b,1026,none⟩=some (.int .i64 h):=hS;clear hS;go_simp
 try simp only [Act.put]
 refine wpAnyH_take (i:=6) (v:= .pointer (some ⟨b,0,none⟩)) rfl (by kernel_rfl) (by kernel_rfl) (by kernel_rfl) (fun _ _ _ h=>h) (Or.inl ⟨by kernel_rfl,?_⟩) HS.out ?_
 ·intro X hS;have hS1:X.cell? ⟨b,1026,none⟩=some (.int .i64 h):=hS;clear hS;go_simp
 try simp only [Act.put]
 refine wpAnyH_take (i:=7) (v:= .pointer (some ⟨b,2,none⟩)) rfl (by kernel_rfl) (by kernel_rfl) (by kernel_rfl) (fun _ _ _ h=>h) (Or.inl ⟨by kernel_rfl,?_⟩) HS.out ?_
 ·intro X hS;have hS1:X.cell? ⟨b,1026,none⟩=some (.int .i64 h):=hS;clear hS;go_simp
 try simp only [Act.put]
 refine wpAnyH_take (i:=8) (v:= .pointer (some ⟨b,2+h,none⟩)) rfl (by kernel_rfl) (by kernel_rfl) (by kernel_rfl) (fun _ _ _ h=>h) (Or.inl ⟨by kernel_rfl,?_⟩) HS.out ?_
 ·intro X hS;have hS1:X.cell? ⟨b,1026,none⟩=some (.int .i64 h):=hS;clear hS;go_simp
 try simp only [Act.put]
 refine wpAnyH_all (rs:=[9]) (by kernel_rfl) (by simp) ?_
 intro ii hii
 rw [List.mem_singleton] at hii
 subst hii
 refine wpOp_step (by rfl) ?_
 intro K' hK'
 have hx:w.drew.cell? ⟨b,2+h,none⟩=some (.int .i64 (st h)):=HM.out.sk h hh
 have hz:w.frozen? ⟨b,2+h,none⟩=false:=HM.out.fz _
 go_simp
 refine hK' _ _ ⟨?_,?_⟩
 ·exact aQ (o:=2+h) HS.out (by omega)
 clear hK'
 refine wpAnyH_done (by kernel_rfl) ?_ _
 have h1:(w.setCell ⟨b,2+h,none⟩ (.int .i64 n)).cell? ⟨b,1026,none⟩=some (.int .i64 h):=aQ HS.out (by omega)
 have hz1:(w.setCell ⟨b,2+h,none⟩ (.int .i64 n)).frozen? ⟨b,1026,none⟩=false:=by rw [World.frozen?_setCell];exact HM.out.fz _
 go_wp2_with fail
 go_end0
 exact ⟨rfl,(HM.out.set n hh).drew,((Ch.set _ _ _).trans (Ch.set _ _ _)).trans ⟨(Below.refl _ _).drew,fun _ _ _=>rfl⟩⟩
set_option maxHeartbeats 2000000 in
theorem pop_any (b:Nat) (v mp:Value) (st:Nat→Int) (h a s:Nat) (w:World) (m:jM w b v mp st (h+1) a s) (hh:h<1024):
  Calls Tryz.prog 66 #[.pointer (some ⟨b,0,none⟩)] w fun e w'=>e= .returned (.int .i64 (st h))∧jM w' b v mp st h a s∧Ch b w w':=by
 have HM:=Lib.hid m
 have hlt:(h:Int)<1024:=by omega
 have h1:w.cell? ⟨b,1026,none⟩=some (.int .i64 ((h:Int)+1)):=m.hh
 have hz:w.frozen? ⟨b,1026,none⟩=false:=m.fz _
 have h2:(w.setCell ⟨b,1026,none⟩ (.int .i64 h)).cell? ⟨b,2+h,none⟩=some (.int .i64 (st h)):=aQ (m.sk h hh) (by omega)
 have h3:(h:Int)+1 - 1=h:=by omega
 clear m
 go_enter Tryz.func66,Tryz.ntmps66
 go_wp2_with fail
 obtain ⟨w1,hw1⟩: ∃w1:World,w1=w.setCell ⟨b,1026,none⟩ (.int .i64 h):=⟨_,rfl⟩
 have HM1:Hid (jM w1 b v mp st h a s):=Lib.hid (by rw [hw1];exact HM.out.less)
 have ou:Hid (Ch b w w1):=Lib.hid (by rw [hw1];exact Ch.set _ _ _)
 rw [←hw1] at h2⊢
 have h4:=HM1.out.hh
 clear hw1 h1 hz h3
 go_quiet (fail)
 go_wp2_with fail
 go_ret
 exact ⟨rfl,HM1.out.drewN _,ou.out.trans (Ch.drewN _ _ _)⟩
end Go.Proofs.YtacfglopionkfaaGreatDoor
namespace Go.Proofs.YtacfglopionkfaaGreatDoor
set_option maxRecDepth 100000
open Go.RowKit
set_option maxHeartbeats 1000000 in
theorem KX (l r:Int) (w:World):Calls Tryz.prog 138 #[.string ⟨#[43]⟩,.int .i64 l,.int .i64 r] w fun e w'=>e= .returned (.int .i64 (wrap64 (l+r)))∧w=w':=by
 go_enter Tryz.func138,Tryz.ntmps138
 go_wp2_with fail
 go_ret
 exact ⟨rfl,rfl⟩
set_option maxHeartbeats 1000000 in
theorem O1 (l r:Int) (w:World):Calls Tryz.prog 138 #[.string ⟨#[42]⟩,.int .i64 l,.int .i64 r] w fun e w'=>e= .returned (.int .i64 (wrap64 (l*r)))∧w=w':=by
 go_enter Tryz.func138,Tryz.ntmps138
 go_wp2_with fail
 go_ret
 exact ⟨rfl,rfl⟩
set_option maxHeartbeats 1000000 in
theorem ET (l r:Int) (w:World):Calls Tryz.prog 166 #[.string ⟨#[116,114,117,116,104]⟩,.int .i64 l,.int .i64 r] w fun e w'=>e= .returned (.int .i64 (if r≠0 then 1 else 0))∧w=w':=by
 by_cases h:r≠0
 ·rw [if_pos h]
  go_enter Tryz.func166,Tryz.ntmps166
  go_wp2_with fail
  go_ret
  exact ⟨rfl,rfl⟩
 ·rw [if_neg h]
  go_enter Tryz.func166,Tryz.ntmps166
  go_wp2_with fail
  go_ret
  exact ⟨rfl,rfl⟩
set_option maxHeartbeats 1000000 in
theorem Ho (l r:Int) (w:World):Calls Tryz.prog 138 #[.string ⟨#[116,114,117,116,104]⟩,.int .i64 l,.int .i64 r] w fun e w'=>e= .returned (.int .i64 (if r≠0 then 1 else 0))∧w=w':=by
 have HC:=Lib.hid (ET l r)
 generalize (if r≠0 then (1:Int) else 0)=z at*
 go_enter Tryz.func138,Tryz.ntmps138
 go_wp2_with fail
 refine (HC.out _).mono ?_
 rintro e w1 ⟨rfl,rfl⟩
 go_wp2_with fail
 go_ret
 exact ⟨rfl,rfl⟩
set_option maxHeartbeats 1000000 in
theorem PU (l r:Int) (w:World):Calls Tryz.prog 166 #[.string ⟨#[33,61]⟩,.int .i64 l,.int .i64 r] w fun e w'=>e= .returned (.int .i64 (if l≠r then 1 else 0))∧w=w':=by
 by_cases h:l≠r
 ·rw [if_pos h]
  go_enter Tryz.func166,Tryz.ntmps166
  go_wp2_with fail
  go_ret
  exact ⟨rfl,rfl⟩
 ·rw [if_neg h]
  go_enter Tryz.func166,Tryz.ntmps166
  go_wp2_with fail
  go_ret
  exact ⟨rfl,rfl⟩
set_option maxHeartbeats 1000000 in
theorem Ur (l r:Int) (w:World):Calls Tryz.prog 138 #[.string ⟨#[33,61]⟩,.int .i64 l,.int .i64 r] w fun e w'=>e= .returned (.int .i64 (if l≠r then 1 else 0))∧w=w':=by
 have HC:=Lib.hid (PU l r)
 generalize (if l≠r then (1:Int) else 0)=z at*
 go_enter Tryz.func138,Tryz.ntmps138
 go_wp2_with fail
 refine (HC.out _).mono ?_
 rintro e w1 ⟨rfl,rfl⟩
 go_wp2_with fail
 go_ret
 exact ⟨rfl,rfl⟩
set_option maxHeartbeats 1000000 in
theorem IC (l r:Int) (w:World):Calls Tryz.prog 166 #[.string ⟨#[33]⟩,.int .i64 l,.int .i64 r] w fun e w'=>e= .returned (.int .i64 (if r=0 then 1 else 0))∧w=w':=by
 by_cases h:r=0
 ·rw [if_pos h]
  go_enter Tryz.func166,Tryz.ntmps166
  go_wp2_with fail
  go_ret
  exact ⟨rfl,rfl⟩
 ·rw [if_neg h]
  go_enter Tryz.func166,Tryz.ntmps166
  go_wp2_with fail
  go_ret
  exact ⟨rfl,rfl⟩
set_option maxHeartbeats 1000000 in
theorem KY (l r:Int) (w:World):Calls Tryz.prog 138 #[.string ⟨#[33]⟩,.int .i64 l,.int .i64 r] w fun e w'=>e= .returned (.int .i64 (if r=0 then 1 else 0))∧w=w':=by
 have HC:=Lib.hid (IC l r)
 generalize (if r=0 then (1:Int) else 0)=z at*
 go_enter Tryz.func138,Tryz.ntmps138
 go_wp2_with fail
 refine (HC.out _).mono ?_
 rintro e w1 ⟨rfl,rfl⟩
 go_wp2_with fail
 go_ret
 exact ⟨rfl,rfl⟩
set_option maxHeartbeats 1000000 in
theorem PZ (l r:Int) (w:World):Calls Tryz.prog 166 #[.string ⟨#[61,61]⟩,.int .i64 l,.int .i64 r] w fun e w'=>e= .returned (.int .i64 (if l=r then 1 else 0))∧w=w':=by
 by_cases h:l=r
 ·rw [if_pos h]
  go_enter Tryz.func166,Tryz.ntmps166
  go_wp2_with fail
  go_ret
  exact ⟨rfl,rfl⟩
 ·rw [if_neg h]
  go_enter Tryz.func166,Tryz.ntmps166
  go_wp2_with fail
  go_ret
  exact ⟨rfl,rfl⟩
set_option maxHeartbeats 1000000 in
theorem Ux (l r:Int) (w:World):Calls Tryz.prog 138 #[.string ⟨#[61,61]⟩,.int .i64 l,.int .i64 r] w fun e w'=>e= .returned (.int .i64 (if l=r then 1 else 0))∧w=w':=by
 have HC:=Lib.hid (PZ l r)
 generalize (if l=r then (1:Int) else 0)=z at*
 go_enter Tryz.func138,Tryz.ntmps138
 go_wp2_with fail
 refine (HC.out _).mono ?_
 rintro e w1 ⟨rfl,rfl⟩
 go_wp2_with fail
 go_ret
 exact ⟨rfl,rfl⟩
set_option maxHeartbeats 1000000 in
theorem PX (l r:Int) (w:World):Calls Tryz.prog 166 #[.string ⟨#[62]⟩,.int .i64 l,.int .i64 r] w fun e w'=>e= .returned (.int .i64 (if r<l then 1 else 0))∧w=w':=by
 by_cases h:r<l
 ·rw [if_pos h]
  go_enter Tryz.func166,Tryz.ntmps166
  go_wp2_with fail
  go_ret
  exact ⟨rfl,rfl⟩
 ·rw [if_neg h]
  go_enter Tryz.func166,Tryz.ntmps166
  go_wp2_with fail
  go_ret
  exact ⟨rfl,rfl⟩
set_option maxHeartbeats 1000000 in
theorem Uu (l r:Int) (w:World):Calls Tryz.prog 138 #[.string ⟨#[62]⟩,.int .i64 l,.int .i64 r] w fun e w'=>e= .returned (.int .i64 (if r<l then 1 else 0))∧w=w':=by
 have HC:=Lib.hid (PX l r)
 generalize (if r<l then (1:Int) else 0)=z at*
 go_enter Tryz.func138,Tryz.ntmps138
 go_wp2_with fail
 refine (HC.out _).mono ?_
 rintro e w1 ⟨rfl,rfl⟩
 go_wp2_with fail
 go_ret
 exact ⟨rfl,rfl⟩
set_option maxHeartbeats 1000000 in
theorem PV (l r:Int) (w:World):Calls Tryz.prog 166 #[.string ⟨#[60]⟩,.int .i64 l,.int .i64 r] w fun e w'=>e= .returned (.int .i64 (if l<r then 1 else 0))∧w=w':=by
 by_cases h:l<r
 ·rw [if_pos h]
  go_enter Tryz.func166,Tryz.ntmps166
  go_wp2_with fail
  go_ret
  exact ⟨rfl,rfl⟩
 ·rw [if_neg h]
  go_enter Tryz.func166,Tryz.ntmps166
  go_wp2_with fail
  go_ret
  exact ⟨rfl,rfl⟩
set_option maxHeartbeats 1000000 in
theorem Us (l r:Int) (w:World):Calls Tryz.prog 138 #[.string ⟨#[60]⟩,.int .i64 l,.int .i64 r] w fun e w'=>e= .returned (.int .i64 (if l<r then 1 else 0))∧w=w':=by
 have HC:=Lib.hid (PV l r)
 generalize (if l<r then (1:Int) else 0)=z at*
 go_enter Tryz.func138,Tryz.ntmps138
 go_wp2_with fail
 refine (HC.out _).mono ?_
 rintro e w1 ⟨rfl,rfl⟩
 go_wp2_with fail
 go_ret
 exact ⟨rfl,rfl⟩
set_option maxHeartbeats 1000000 in
theorem PY (l r:Int) (w:World):Calls Tryz.prog 166 #[.string ⟨#[62,61]⟩,.int .i64 l,.int .i64 r] w fun e w'=>e= .returned (.int .i64 (if r≤l then 1 else 0))∧w=w':=by
 by_cases h:r≤l
 ·rw [if_pos h]
  go_enter Tryz.func166,Tryz.ntmps166
  go_wp2_with fail
  go_ret
  exact ⟨rfl,rfl⟩
 ·rw [if_neg h]
  go_enter Tryz.func166,Tryz.ntmps166
  go_wp2_with fail
  go_ret
  exact ⟨rfl,rfl⟩
set_option maxHeartbeats 1000000 in
theorem Uw (l r:Int) (w:World):Calls Tryz.prog 138 #[.string ⟨#[62,61]⟩,.int .i64 l,.int .i64 r] w fun e w'=>e= .returned (.int .i64 (if r≤l then 1 else 0))∧w=w':=by
 have HC:=Lib.hid (PY l r)
 generalize (if r≤l then (1:Int) else 0)=z at*
 go_enter Tryz.func138,Tryz.ntmps138
 go_wp2_with fail
 refine (HC.out _).mono ?_
 rintro e w1 ⟨rfl,rfl⟩
 go_wp2_with fail
 go_ret
 exact ⟨rfl,rfl⟩
set_option maxHeartbeats 1000000 in
theorem PW (l r:Int) (w:World):Calls Tryz.prog 166 #[.string ⟨#[60,61]⟩,.int .i64 l,.int .i64 r] w fun e w'=>e= .returned (.int .i64 (if l≤r then 1 else 0))∧w=w':=by
 by_cases h:l≤r
 ·rw [if_pos h]
  go_enter Tryz.func166,Tryz.ntmps166
  go_wp2_with fail
  go_ret
  exact ⟨rfl,rfl⟩
 ·rw [if_neg h]
  go_enter Tryz.func166,Tryz.ntmps166
  go_wp2_with fail
  go_ret
  exact ⟨rfl,rfl⟩
set_option maxHeartbeats 1000000 in
theorem Ut (l r:Int) (w:World):Calls Tryz.prog 138 #[.string ⟨#[60,61]⟩,.int .i64 l,.int .i64 r] w fun e w'=>e= .returned (.int .i64 (if l≤r then 1 else 0))∧w=w':=by
 have HC:=Lib.hid (PW l r)
 generalize (if l≤r then (1:Int) else 0)=z at*
 go_enter Tryz.func138,Tryz.ntmps138
 go_wp2_with fail
 refine (HC.out _).mono ?_
 rintro e w1 ⟨rfl,rfl⟩
 go_wp2_with fail
 go_ret
 exact ⟨rfl,rfl⟩
end Go.Proofs.YtacfglopionkfaaGreatDoor
