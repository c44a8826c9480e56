import Derived.Test.YtacfglopionkfaaGreatDoorKSn
import Derived.Test.YtacfglopionkfaaGreatDoorKWr
import Derived.Stop.LaidErr
import Derived.Lib.LaidTab
import Derived.Test.YtacfglopionkfaaGreatDoorRows
import Derived.LaidSub
import Derived.Test.YtacfglopionkfaaGreatDoorKVa
import Derived.Test.YtacfglopionkfaaGreatDoorKDg
import Derived.ChangeSlices
import Derived.ProofKit
import Derived.Deep.Slices
import Derived.Below
import Derived.SizedLaws
namespace Go.Proofs.YtacfglopionkfaaGreatDoor
set_option maxRecDepth 100000
open Go.RowKit
def keepA (x:String × DataW Unit):Bool:= !(x.1== "unicode/utf8.acceptRanges") && !(x.1== "unicode/utf8.first")
theorem UU {W:World} {L:List (String × DataW Unit)} (hL: ∃x y,(L.filter keepA).filter (fun x=>x.2.handleName?.isNone)=x::y::("internal/strconv.uint64pow10",Lib.tabData .u64 Lib.pow10Tab)::gI.map sd)
  (hH:(L.filter keepA).filter (fun x=>x.2.handleName?.isSome)=[("errors.errorType",.iface "internal/reflectlite.rtype" (.agg [.ptr (.lit (.string [101,114,114,111,114]))]))]) (h:laidMetH Tryz.prog L W): ∃s,o7 W s∧TP W:=
 Dc hL hH (laidMetH.filter keepA h)
theorem Ox {H:Type} {enc:TypeId × Value→H} {W:World} {base:Nat} {v:Value} {d:DataW H} {ps:List MemPlace}
  (hk:Value.okWide Tryz.prog W .any base 38 v) (h:DataW.Trod enc Tryz.prog W 0 (fun _=>true) true 38 v d ps): ∃l:Vl,VS W v l∧l.length≤maxLen∧ ∀x∈l,x.1.size≤maxLen∧x.2.size≤maxLen:=by
 obtain ⟨a0,len,cap,rfl⟩:=WideShapes.okWide_slice Tryz.underlying38 hk
 obtain ⟨fuel,hf⟩:=h
 by_cases hl0:len=0
 ·subst hl0;exact ⟨[],Or.inl ⟨rfl,a0,cap,rfl⟩,Nat.zero_le _,fun x hx=>(by cases hx)⟩
 rcases Deep.open_slice Tryz.underlying38 hf with ⟨hcs,hx⟩ | ⟨a,len',cap',m,n,D,Pl,hcs,hb,hl,hm,hmm,hx,hi⟩
 ·simp [Value.cells] at hcs
  exact absurd hcs.2.1 hl0
 ·simp [Value.cells] at hcs
  obtain ⟨rfl,rfl,rfl⟩:=hcs
  simp only [if_true] at hmm
  have hC:Tryz.prog.cellsOf 96=2:=by kernel_rfl
  rw [hC] at hi
  have hel: ∀i,i<len→ ∃x:ByteArray × ByteArray,W.cell? (a.add (i*2))=some (.string x.1)∧W.cell? (a.add (i*2+1))=some (.string x.2)∧x.1.size≤maxLen∧x.2.size≤maxLen:=by
   intro i him
   obtain ⟨cs',hc,ht⟩:=hi i (by omega)
   obtain ⟨_,hlen,hat⟩:=World.cells?_some hc
   obtain ⟨xs,n',_,hy,hcl,hxl,hg⟩:=DataW.trod_struct Tryz.underlying96 ht
   match cs',hlen with
   | [c0,c1],_=>
    match xs,hxl with
    | [y0,y1],_=>
     have o0:Tryz.prog.cellsOf 9=1:=by kernel_rfl
     have g0:DataW.trod enc Tryz.prog W 0 (fun _=>true) true n' 9 (([c0,c1].drop 0).take (Tryz.prog.cellsOf 9))=some y0:=hg 0 _ rfl
     have g1:DataW.trod enc Tryz.prog W 0 (fun _=>true) true n' 9 (([c0,c1].drop 1).take (Tryz.prog.cellsOf 9))=some y1:=hg 1 _ rfl
     rw [o0] at g0 g1
     simp only [List.drop_zero,List.take_succ_cons,List.take_zero,List.drop_succ_cons] at g0 g1
     obtain ⟨sv,hsv,_,hz0⟩:=DataW.trod_string Tryz.underlying9 g0
     obtain ⟨tv,htv,_,hz1⟩:=DataW.trod_string Tryz.underlying9 g1
     simp only [List.cons.injEq,and_true] at hsv htv
     subst hsv htv
     have c0':=hat 0 (by omega)
     have c1':=hat 1 (by omega)
     simp only [List.getElem?_cons_zero,List.getElem?_cons_succ] at c0' c1'
     rw [Deep.add_add] at c0' c1'
     exact ⟨(sv,tv),c0',c1',hz0,hz1⟩
  obtain ⟨ws,hws⟩:=Deep.choose_lt hel
  obtain ⟨b,off,spot⟩:=a
  have hspot:spot=none:=by simpa [Addr.add] using World.cell?_spot (hws 0 (by omega)).1
  subst hspot
  have hw: ∀(j:Nat) (p:ByteArray × ByteArray),((List.range len).map ws)[j]? =some p→j<len∧ws j=p:=by
   intro j p hj
   rw [List.getElem?_map] at hj
   obtain ⟨i,h1,h2⟩:=Option.map_eq_some_iff.1 hj
   have h3:=List.getElem?_eq_some_iff.1 h1
   obtain ⟨h4,h5⟩:=h3
   rw [List.getElem_range] at h5
   subst h5
   exact ⟨by simpa using h4,h2⟩
  refine ⟨(List.range len).map ws,Or.inr ⟨b,off,cap,by simp,?_,fun j p hj=>?_⟩,by simp only [List.length_map,List.length_range];omega,fun x hx=>?_⟩
  ·have h0:=(hws 0 (by omega)).1
   exact nZ (by simpa [WideShapes.add_plain] using h0)
  ·obtain ⟨hj1,rfl⟩:=hw j p hj
   obtain ⟨h1,h2,_⟩:=hws j hj1
   rw [WideShapes.add_plain] at h1 h2
   rw [Nat.add_assoc]
   exact ⟨h1,h2⟩
  ·obtain ⟨i,hi1,rfl⟩:=List.mem_map.1 hx
   exact (hws i (by simpa using hi1)).2.2
theorem byte_wf {n:Int} (h:(Lit.int .u8 n).wf=true):0≤n∧n≤255:=by
 simpa [Lit.wf,IntKind.min,IntKind.max,IntKind.signed,IntKind.bits] using h
theorem OJ {H:Type} {enc:TypeId × Value→H} {W:World} {base:Nat} {v:Value} {d:DataW H} {ps:List MemPlace}
  (hk:Value.okWide Tryz.prog W .any base 22 v) (h:DataW.Trod enc Tryz.prog W 0 (fun _=>true) true 22 v d ps):
  ∃l,Sl W v l∧ ∀(ts:List TypeId) (ds:List (DataW H)) (j:Nat),(DataW.weightsEach Tryz.prog ts ds).all (· ≤reachBytes)=true→ts[j]? =some 22→ds[j]? =some d→l.length≤140737488351232:=by
 obtain ⟨a0,len,cap,rfl⟩:=WideShapes.okWide_slice Tryz.underlying22 hk
 obtain ⟨fuel,hf⟩:=h
 by_cases hl0:len=0
 ·subst hl0;exact ⟨[],⟨fun i=>by simp,by simp,Or.inl ⟨rfl,a0,cap,rfl⟩⟩,fun _ _ _ _ _ _=>by simp⟩
 rcases ChangeShapes.open_ints Tryz.underlying22 Tryz.underlying5 (by kernel_rfl) hf with ⟨hcs,_⟩ | ⟨a,len',cap',zs,hcs,_,hl,hm,hzl,hx,hcell,hwf⟩
 ·simp [Value.cells] at hcs
  exact absurd hcs.2.1 hl0
 ·simp [Value.cells] at hcs
  obtain ⟨rfl,rfl,rfl⟩:=hcs
  simp only [if_true] at hzl
  obtain ⟨b,o,spot⟩:=a
  have hspot:spot=none:=by simpa [Addr.add] using World.cell?_spot (hcell 0 (by omega))
  subst hspot
  have hlt:(zs.take len).length=len:=by simp;omega
  have hg: ∀i,i<len→(zs.take len).getD i 0=zs.getD i 0:=fun i hi=>by simp [List.getD,hi]
  unfold maxLen at hm
  refine ⟨zs.take len,⟨fun i=>?_,by omega,Or.inr ⟨b,o,cap,by rw [hlt],by omega,by omega,fun i hi=>?_⟩⟩,fun ts ds j hw ht hd=>?_⟩
  ·by_cases hi:i<len
   ·rw [hg i hi]
    have:zs.getD i 0∈zs:=by
     rw [List.getD,List.getElem?_eq_getElem (by omega)]
     exact List.getElem_mem _
    exact byte_wf (hwf _ this)
   ·rw [List.getD,List.getElem?_eq_none (by omega)];simp
  ·rw [hlt] at hi
   have:=hcell i (by omega)
   rw [WideShapes.add_plain] at this
   rw [hg i hi]
   exact this
  ·simp only [Prod.mk.injEq] at hx
   rw [hx.1] at hd
   have h1:=sized_slice hw ht hd Tryz.underlying22
   have hb:Tryz.prog.bytesOf 5=1:=by kernel_rfl
   rw [hb] at h1
   unfold reachBytes at h1
   simp [ChangeShapes.lits] at h1
   rw [hlt]
   omega
theorem Zn {H:Type} {enc:TypeId × Value→H} {W:World} {base:Nat} {v:Value} {d:DataW H} {ps:List MemPlace}
  (hk:Value.okWide Tryz.prog W .any base 22 v) (h:DataW.Trod enc Tryz.prog W 0 (fun _=>true) true 22 v d ps): ∃l,Sl W v l:=by
 obtain ⟨l,hs,_⟩:=OJ hk h
 exact ⟨l,hs⟩
end Go.Proofs.YtacfglopionkfaaGreatDoor
