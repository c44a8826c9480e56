import Derived.Test.YtacfglopionkfaaGreatDoorKVa
import Derived.Sort.Walk0
import Derived.Maps.AppendAt
import Derived.BigQuiet
namespace Go.Proofs.YtacfglopionkfaaGreatDoor
set_option maxHeartbeats 8000000
set_option maxRecDepth 100000
open Go.RowKit
theorem bH {X X':World} {B:Nat} {v:Value} {n:Nat} {xs:List Value} (h:X.ownsRow B 96 2 v n xs) (hb:Below X.heap.size X X'):X'.ownsRow B 96 2 v n xs:=
 h.kept (row:=none) ⟨hb.os,hb.tape,hb.output,hb.size,fun k hk _=>hb.block k hk⟩ (by
  rcases h.2 with ⟨rfl,_⟩ | ⟨g,cap,cur,rfl,_⟩
  ·exact Or.inl rfl
  ·exact Or.inr (fun e=>by cases e))
theorem Ri {X:World} {b:Nat} {p:ByteArray × ByteArray} (h:X.heap[b]? =some (.cells #[.string p.1,.string p.2] 96 (0,0))): ∀j u,(Bg p)[j]? =some u→X.cell? ((⟨b,0,none⟩:Addr).add j)=some u:=fun j u hj=>by
 rw [WideShapes.add_plain,Nat.zero_add,Lib.cell_of_heap h]
 simpa [Bg] using hj
theorem EN {l:Vl} {k:Nat} {p:ByteArray × ByteArray} (h:l[k]? =some p):l.drop k=p::l.drop (k+1):=by
 have hk:=(List.getElem?_eq_some_iff.1 h).1
 rw [List.drop_eq_getElem_cons hk]
 congr 1
 exact (List.getElem?_eq_some_iff.1 h).2
theorem BN {W:World} {B m:Nat} {v:Value} {xs:List Value} (h:W.ownsRow B 96 2 v m xs) (hm:0<m): ∃b c,v= .slice (some ⟨b,0,none⟩) m c:=by
 rcases h.2 with ⟨_,h0⟩ | ⟨g,cap,cur,e,_⟩
 ·omega
 ·exact ⟨g,cap,e⟩
theorem ng {ops:Array Oper} {rest:List Oper} {o:Oper} {a:Act} {Q:Exit→Act→World→Prop} {w:World} (hgd:o.guard=none) (s x:Operand) (t:TypeId) (ht:Tryz.prog.underlying t=some (.slice 96))
  (ho:o.op= .call {callee:= .builtin .append,args:= #[s,x],argTypes:= #[t,t]}) (B:Nat) (v:Value) (L:Vl) (p:ByteArray × ByteArray) (hs:a.eval s=v) (hown:w.ownsRow B 96 2 v L.length (fE L)) (b:Nat) (hx:a.eval x= .slice (some ⟨b,0,none⟩) 1 1)
  (hb:w.heap[b]? =some (.cells #[.string p.1,.string p.2] 96 (0,0))) (hl:L.length≤1000003) (hB:B≤w.heap.size)
  (h: ∀b' c' w',w'.ownsRow B 96 2 (.slice (some ⟨b',0,none⟩) (L.length+1) c') (L++[p]).length (fE (L++[p]))→w.grownBy w' v.ownBlock→(v.ownBlock=some b'∨b'=w.heap.size)→wpList Tryz.prog ops Q rest (a.put o.dst (.slice (some ⟨b',0,none⟩) (L.length+1) c')) w'):
  wpList Tryz.prog ops Q (o::rest) a w:=by
 obtain ⟨i0,z0,hi0,hz0,hz1,hz2,hz3⟩:=yI
 refine wpList_append_own_at w hgd s x t ho B 96 i0 z0 2 32 ht hi0 hz0 hz1 hz2 hz3 (by decide) v L.length (fE L) hs hown ⟨b,0,none⟩ 1 1 (Bg p) hx rfl (Ri hb) (zN p) (by unfold maxLen;omega) (by omega) hB ?_
 intro v' w' ho' hg _ hat
 obtain ⟨b',c',rfl⟩:=BN ho' (by omega)
 refine h b' c' w' ?_ hg ?_
 ·rw [List.length_append,List.length_singleton,wE]
  simpa [fE] using ho'
 ·rcases hat with e | e
  ·exact Or.inl e.symm
  ·exact Or.inr (by simpa [Value.ownBlock] using e)
theorem fU {B:Nat} {w0 w w':World} {v:Value} {n:Nat} {xs:List Value} (h:Below B w0 w) (ho:w.ownsRow B 96 2 v n xs) (hg:w.grownBy w' v.ownBlock) (hB:B≤w.heap.size):Below B w0 w':=h.grown hg hB (fun k e=>(ho.lt k e).1)
theorem Rh {W W':World} {v:Value} {b:Nat} {o:Obj} (hg:W.grownBy W' v.ownBlock) (hb:W.heap[b]? =some o) (hne: ∀g,v.ownBlock=some g→b≠g):W'.heap[b]? =some o:=
 (hg.block b (aV hb) (fun e=>hne b e.symm rfl)).trans hb
theorem Zm {a b:ByteArray} (h:a=b):(a.toList==b.toList)=true:=by rw [h];exact beq_self_eq_true _
theorem Nw {a b:ByteArray} (h: ¬a=b):(a.toList==b.toList)=false:=by
 rw [beq_eq_false_iff_ne,Lib.toList_data,Lib.toList_data]
 exact fun e=>h (pG e)
theorem Ba (va0:Value) (l:Vl) (nm val:ByteArray) (w:World) (hv:VS w va0 l) (hl:l.length≤1000000):
  Calls Tryz.prog 19 #[va0,.string nm,.string val] w fun e w'=> ∃v,e= .returned v∧w'.ownsRow w.heap.size 96 2 v (iw nm val l).length (fE (iw nm val l))∧Below w.heap.size w w':=by
 obtain ⟨ad,ac,rfl⟩: ∃ad ac,va0= .slice ad l.length ac:=by
  rcases hv with ⟨rfl,x,y,h⟩ | ⟨x,y,z,h,_⟩
  ·exact ⟨x,y,h⟩
  ·exact ⟨_,z,h⟩
 have HA:=Lib.hid hv
 obtain ⟨n,hn⟩: ∃n,n=l.length:=⟨_,rfl⟩
 have HN:=Lib.hid hn
 rw [←hn] at hl
 rw [←hn]
 clear hv hn
 go_enter Tryz.func19,Tryz.ntmps19
 go_wp2_with fail
 go_loopw [7,8,13] (fun s7 s8 s13 X=> ∃(k:Nat) (d:Bool) (done:Vl) (va:Option Addr) (vc:Nat),s7= .slice va done.length vc∧s8= .bool d∧s13= .int .i64 (k:Nat)∧k≤n∧fM nm val false l=done++fM nm val d (l.drop k)∧done.length≤k+1∧(d=false→done.length≤k)∧X.ownsRow w.heap.size 96 2 (.slice va done.length vc) done.length (fE done)∧Below w.heap.size w X) (fun _ _ s13 _=>n - (intOf s13).toNat)
 case atStart=>exact ⟨0,false,[],none,0,rfl,rfl,rfl,Nat.zero_le _,by simp,by simp,by simp,World.ownsRow_nil _ _ _ _,Below.refl _ _⟩
 case round=>
  obtain ⟨k,d,done,va,vc,rfl,rfl,rfl,hk,heq,hdl,hdl0,hrow,hbl⟩:=hrel
  have lM:=Lib.hid hbl
  have Gp:=Lib.hid hrow
  have DF:=Lib.hid heq
  have HD1:=Lib.hid hdl
  have Ot:=Lib.hid hdl0
  have SS:Hid (done.length≤1000001):=Lib.hid (by omega)
  clear hbl hrow heq hdl hdl0
  by_cases hlt:k<n
  ·have sO :k<l.length:=by rw [←HN.out];exact hlt
   obtain ⟨⟨pn,pv⟩,hp⟩: ∃x,l[k]? =some x:=⟨l[k],List.getElem?_eq_getElem sO⟩
   obtain ⟨g,o,cap,hsv,hg,hc⟩: ∃g o cap,(.slice ad l.length ac:Value)= .slice (some ⟨g,o,none⟩) l.length cap∧g<wr.heap.size∧ ∀(j:Nat) (p:ByteArray × ByteArray),l[j]? =some p→wr.cell? ⟨g,o+j*2,none⟩=some (.string p.1)∧wr.cell? ⟨g,o+j*2+1,none⟩=some (.string p.2):=by
    rcases HA.out.below lM.out with ⟨h0,_⟩ | h
    ·rw [h0] at sO;simp at sO
    ·exact h
   simp only [Value.slice.injEq] at hsv
   obtain ⟨rfl,hx1,hx2⟩:=hsv
   clear hx1 hx2
   obtain ⟨p0,p1⟩:=hc k _ hp
   have WW:(k:Int)<(n:Int):=by omega
   dsimp only at p0 p1
   have WL:=Lib.hid (EN hp)
   clear hc hp hg
   go_upto_region 6 with fail
   obtain ⟨W3,hW3⟩: ∃W3,W3=wr.alloc (.cells #[.string pn,.string pv] 96):=⟨_,rfl⟩
   have YC:W3.heap[wr.heap.size]? =some (.cells #[.string pn,.string pv] 96 (0,0)):=by rw [hW3];exact dN wr _
   have hb3:Below wr.heap.size wr W3:=by rw [hW3];exact (Below.refl _ _).alloc (Nat.le_refl _) _
   rw [←hW3]
   have oJ:=Lib.hid (bH Gp.out hb3)
   have Oq:Hid (∀g,(Value.slice va done.length vc).ownBlock=some g→wr.heap.size≠g):=Lib.hid (fun g hg=>by have:=(Gp.out.lt g hg).2;omega)
   have HB3:=Lib.hid (lM.out.trans (hb3.mono lM.out.size))
   obtain ⟨q0,q1⟩:W3.cell? ⟨wr.heap.size,0,none⟩=some (.string pn)∧W3.cell? ⟨wr.heap.size,1,none⟩=some (.string pv):=⟨(Lib.cell_of_heap YC 0).trans rfl,(Lib.cell_of_heap YC 1).trans rfl⟩
   have qz:=aV YC
   have HH6:=Lib.hid YC
   generalize wr.heap.size=h6 at*
   clear hb3 YC hW3 p0 p1 Gp lM
   by_cases hle:kF pn<kF nm
   ·have hge:Op.bytesLess pn.toList nm.toList=true:=by rw [bytesLess_eq,Lib.toList_data,Lib.toList_data];exact decide_eq_true hle
    have Jl:=Lib.hid hle
    clear hle
    have hsame: ¬pn=nm:=fun e=>jD _ (e▸Jl.out)
    have ND:=Lib.hid hsame
    have hq:=Nw hsame
    clear hsame
    cases d with
    | true=>
     have oH:fM nm val false l=(done++[(pn,pv)])++fM nm val true (l.drop (k+1)):=by
      rw [DF.out,WL.out,fM]
      simp [ND.out]
     have JJ:=Lib.hid oH
     clear oH
     go_wp2_with (at_builtin;refine ng rfl (.tmp 35) (.tmp 37) 40 Tryz.underlying40 rfl w.heap.size (.slice va done.length vc) done (pn,pv) rfl (bH oJ.out ((Below.refl _ _).alloc (Nat.le_refl _) _)) W3.heap.size rfl (dN W3 _) (by have:=SS.out;(try simp only [List.length_append,List.length_cons,List.length_nil]);omega) (by have:=HB3.out.size;simp only [World.size_alloc];omega) ?_;intro b7 c7 V7 oI vJ DK)
     have vP:=Lib.hid oI
     have SV:=Lib.hid (fU (HB3.out.alloc HB3.out.size (.cells #[.string (pn,pv).1,.string (pn,pv).2] 96)) (bH oJ.out ((Below.refl _ _).alloc (Nat.le_refl _) _)) vJ (by have:=HB3.out.size;simp only [World.size_alloc];omega))
     clear oI vJ DK
     go_wp2_with fail
     go_roundw
     case rel=>exact ⟨k+1,true,done++[(pn,pv)],some ⟨b7,0,none⟩,c7,by simp,rfl,by go_num,by omega,JJ.out,by have:=HD1.out;(try simp only [List.length_append,List.length_cons,List.length_nil]);omega,by simp,by simpa using vP.out,SV.out⟩
     case measure=>simp [intOf];omega
    | false=>
     have oH:fM nm val false l=(done++[(pn,pv)])++fM nm val false (l.drop (k+1)):=by
      rw [DF.out,WL.out,fM]
      simp [Jl.out,ND.out]
     have JJ:=Lib.hid oH
     clear oH
     go_wp2_with (at_builtin;refine ng rfl (.tmp 35) (.tmp 37) 40 Tryz.underlying40 rfl w.heap.size (.slice va done.length vc) done (pn,pv) rfl (bH oJ.out ((Below.refl _ _).alloc (Nat.le_refl _) _)) W3.heap.size rfl (dN W3 _) (by have:=SS.out;(try simp only [List.length_append,List.length_cons,List.length_nil]);omega) (by have:=HB3.out.size;simp only [World.size_alloc];omega) ?_;intro b7 c7 V7 oI vJ DK)
     have vP:=Lib.hid oI
     have SV:=Lib.hid (fU (HB3.out.alloc HB3.out.size (.cells #[.string (pn,pv).1,.string (pn,pv).2] 96)) (bH oJ.out ((Below.refl _ _).alloc (Nat.le_refl _) _)) vJ (by have:=HB3.out.size;simp only [World.size_alloc];omega))
     clear oI vJ DK
     go_wp2_with fail
     go_roundw
     case rel=>exact ⟨k+1,false,done++[(pn,pv)],some ⟨b7,0,none⟩,c7,by simp,rfl,by go_num,by omega,JJ.out,by have:=HD1.out;have:=Ot.out rfl;(try simp only [List.length_append,List.length_cons,List.length_nil]);omega,fun _=>by have:=Ot.out rfl;(try simp only [List.length_append,List.length_cons,List.length_nil]);omega,by simpa using vP.out,SV.out⟩
     case measure=>simp [intOf];omega
   ·have hge:Op.bytesLess pn.toList nm.toList=false:=by rw [bytesLess_eq,Lib.toList_data,Lib.toList_data];exact decide_eq_false hle
    have Jl:=Lib.hid hle
    clear hle
    by_cases hsame:pn=nm
    ·have ND:=Lib.hid hsame
     have hq:=Zm hsame
     clear hsame
     cases d with
     | true=>
      have oH:fM nm val false l=(done)++fM nm val true (l.drop (k+1)):=by
       rw [DF.out,WL.out,fM]
       simp [ND.out]
      have JJ:=Lib.hid oH
      clear oH
      go_wp2_with fail
      go_roundw
      case rel=>exact ⟨k+1,true,done,va,vc,by simp,rfl,by go_num,by omega,JJ.out,by have:=HD1.out;(try simp only [List.length_append,List.length_cons,List.length_nil]);omega,by simp,by simpa using oJ.out,HB3.out⟩
      case measure=>simp [intOf];omega
     | false=>
      have oH:fM nm val false l=(done++[(nm,val)])++fM nm val true (l.drop (k+1)):=by
       rw [DF.out,WL.out,fM]
       simp [ND.out]
      have JJ:=Lib.hid oH
      clear oH
      go_wp2_with (at_builtin;refine ng rfl (.tmp 25) (.tmp 29) 40 Tryz.underlying40 rfl w.heap.size (.slice va done.length vc) done (nm,val) rfl (bH oJ.out ((Below.refl _ _).alloc (Nat.le_refl _) _)) W3.heap.size rfl (dN W3 _) (by have:=SS.out;(try simp only [List.length_append,List.length_cons,List.length_nil]);omega) (by have:=HB3.out.size;simp only [World.size_alloc];omega) ?_;intro b5 c5 V5 hown5 hgr5 DL;have hh5:V5.heap[h6]? =some (.cells #[.string pn,.string pv] 96 (0,0)):=Rh hgr5 (fO HH6.out _) Oq.out;obtain ⟨r0,r1⟩:V5.cell? ⟨h6,0,none⟩=some (.string pn)∧V5.cell? ⟨h6,1,none⟩=some (.string pv):=⟨(Lib.cell_of_heap hh5 0).trans rfl,(Lib.cell_of_heap hh5 1).trans rfl⟩;have rz:=aV hh5;have HH5:=Lib.hid hh5;clear hh5)
      have yH:=Lib.hid hown5
      have FX:=Lib.hid (fU (HB3.out.alloc HB3.out.size (.cells #[.string (nm,val).1,.string (nm,val).2] 96)) (bH oJ.out ((Below.refl _ _).alloc (Nat.le_refl _) _)) hgr5 (by have:=HB3.out.size;simp only [World.size_alloc];omega))
      have HNE5:Hid (∀g,(Value.slice (some ⟨b5,0,none⟩) (done.length+1) c5).ownBlock=some g→h6≠g):=Lib.hid (fun g hg=>by
       obtain rfl:b5=g:=by simpa [Value.ownBlock] using hg
       rcases DL with e | e
       ·exact Oq.out _ e
       ·have:=aV HH6.out;simp only [World.size_alloc] at e;omega)
      clear hown5 hgr5 DL
      go_wp2_with fail
      go_roundw
      case rel=>exact ⟨k+1,true,done++[(nm,val)],some ⟨b5,0,none⟩,c5,by simp,rfl,by go_num,by omega,JJ.out,by have:=HD1.out;have:=Ot.out rfl;(try simp only [List.length_append,List.length_cons,List.length_nil]);omega,by simp,by simpa using yH.out,FX.out⟩
      case measure=>simp [intOf];omega
    ·have ND:=Lib.hid hsame
     have hq:=Nw hsame
     clear hsame
     cases d with
     | true=>
      have oH:fM nm val false l=(done++[(pn,pv)])++fM nm val true (l.drop (k+1)):=by
       rw [DF.out,WL.out,fM]
       simp [ND.out]
      have JJ:=Lib.hid oH
      clear oH
      go_wp2_with (at_builtin;refine ng rfl (.tmp 35) (.tmp 37) 40 Tryz.underlying40 rfl w.heap.size (.slice va done.length vc) done (pn,pv) rfl (bH oJ.out ((Below.refl _ _).alloc (Nat.le_refl _) _)) W3.heap.size rfl (dN W3 _) (by have:=SS.out;(try simp only [List.length_append,List.length_cons,List.length_nil]);omega) (by have:=HB3.out.size;simp only [World.size_alloc];omega) ?_;intro b7 c7 V7 oI vJ DK)
      have vP:=Lib.hid oI
      have SV:=Lib.hid (fU (HB3.out.alloc HB3.out.size (.cells #[.string (pn,pv).1,.string (pn,pv).2] 96)) (bH oJ.out ((Below.refl _ _).alloc (Nat.le_refl _) _)) vJ (by have:=HB3.out.size;simp only [World.size_alloc];omega))
      clear oI vJ DK
      go_wp2_with fail
      go_roundw
      case rel=>exact ⟨k+1,true,done++[(pn,pv)],some ⟨b7,0,none⟩,c7,by simp,rfl,by go_num,by omega,JJ.out,by have:=HD1.out;(try simp only [List.length_append,List.length_cons,List.length_nil]);omega,by simp,by simpa using vP.out,SV.out⟩
      case measure=>simp [intOf];omega
     | false=>
      have oH:fM nm val false l=(done++[(nm,val)]++[(pn,pv)])++fM nm val true (l.drop (k+1)):=by
       rw [DF.out,WL.out,fM]
       simp [Jl.out,ND.out]
      have JJ:=Lib.hid oH
      clear oH
      go_wp2_with (first
       | (at_builtin
          refine ng rfl (.tmp 25) (.tmp 29) 40 Tryz.underlying40 rfl w.heap.size (.slice va done.length vc) done (nm,val) rfl (bH oJ.out ((Below.refl _ _).alloc (Nat.le_refl _) _)) W3.heap.size rfl (dN W3 _) (by have:=SS.out;(try simp only [List.length_append,List.length_cons,List.length_nil]);omega) (by have:=HB3.out.size;simp only [World.size_alloc];omega) ?_
          intro b5 c5 V5 hown5 hgr5 DL
          have hh5:V5.heap[h6]? =some (.cells #[.string pn,.string pv] 96 (0,0)):=Rh hgr5 (fO HH6.out _) Oq.out
          obtain ⟨r0,r1⟩:V5.cell? ⟨h6,0,none⟩=some (.string pn)∧V5.cell? ⟨h6,1,none⟩=some (.string pv):=⟨(Lib.cell_of_heap hh5 0).trans rfl,(Lib.cell_of_heap hh5 1).trans rfl⟩
          have rz:=aV hh5
          have HH5:=Lib.hid hh5
          clear hh5
          have yH:=Lib.hid hown5
          have FX:=Lib.hid (fU (HB3.out.alloc HB3.out.size (.cells #[.string (nm,val).1,.string (nm,val).2] 96)) (bH oJ.out ((Below.refl _ _).alloc (Nat.le_refl _) _)) hgr5 (by have:=HB3.out.size;simp only [World.size_alloc];omega))
          have HNE5:Hid (∀g,(Value.slice (some ⟨b5,0,none⟩) (done.length+1) c5).ownBlock=some g→h6≠g):=Lib.hid (fun g hg=>by
           obtain rfl:b5=g:=by simpa [Value.ownBlock] using hg
           rcases DL with e | e
           ·exact Oq.out _ e
           ·have:=aV HH6.out;simp only [World.size_alloc] at e;omega)
          clear hown5 hgr5 DL)
       | (at_builtin;refine ng rfl (.tmp 35) (.tmp 37) 40 Tryz.underlying40 rfl w.heap.size (.slice (some ⟨b5,0,none⟩) (done.length+1) c5) (done++[(nm,val)]) (pn,pv) rfl (bH yH.out ((Below.refl _ _).alloc (Nat.le_refl _) _)) V5.heap.size rfl (dN V5 _) (by have:=SS.out;(try simp only [List.length_append,List.length_cons,List.length_nil]);omega) (by have:=FX.out.size;simp only [World.size_alloc];omega) ?_;intro b7 c7 V7 oI vJ DK))
      have vP:=Lib.hid oI
      have SV:=Lib.hid (fU (FX.out.alloc FX.out.size (.cells #[.string (pn,pv).1,.string (pn,pv).2] 96)) (bH yH.out ((Below.refl _ _).alloc (Nat.le_refl _) _)) vJ (by have:=FX.out.size;simp only [World.size_alloc];omega))
      clear oI vJ DK
      go_wp2_with fail
      go_roundw
      case rel=>exact ⟨k+1,true,done++[(nm,val)]++[(pn,pv)],some ⟨b7,0,none⟩,c7,by simp,rfl,by go_num,by omega,JJ.out,by have:=HD1.out;have:=Ot.out rfl;(try simp only [List.length_append,List.length_cons,List.length_nil]);omega,by simp,by simpa using vP.out,SV.out⟩
      case measure=>simp [intOf];omega
  ·have hke:k=n:=by omega
   subst hke
   have hdr:l.drop k=[]:=List.drop_eq_nil_of_le (by have:=HN.out;omega)
   have HE:Hid (fM nm val false l=done++fM nm val d []):=Lib.hid (by rw [←hdr];exact DF.out)
   clear hdr
   cases d with
   | true=>
    go_wp2_with fail
    go_ret
    have e:iw nm val l=done:=by unfold iw;rw [HE.out];simp [fM]
    rw [e]
    exact ⟨_,rfl,Gp.out,lM.out⟩
   | false=>
    go_wp2_with (at_builtin;go_must (refine ng rfl (.tmp 42) (.tmp 46) 40 Tryz.underlying40 rfl w.heap.size (.slice va done.length vc) done (nm,val) rfl (bH Gp.out ((Below.refl _ _).alloc (Nat.le_refl _) _)) wr.heap.size rfl (dN wr _) (by have:=SS.out;omega) (by have:=lM.out.size;simp only [World.size_alloc];omega) ?_);intro b5 c5 V5 hown5 hgr5 DL)
    have yH:=Lib.hid hown5
    have FX:=Lib.hid (fU (lM.out.alloc lM.out.size (.cells #[.string nm,.string val] 96)) (bH Gp.out ((Below.refl _ _).alloc (Nat.le_refl _) _)) hgr5 (by have:=lM.out.size;simp only [World.size_alloc];omega))
    clear hown5 hgr5 DL
    go_wp2_with fail
    go_ret
    have e:iw nm val l=done++[(nm,val)]:=by unfold iw;rw [HE.out];simp [fM]
    rw [e]
    exact ⟨_,rfl,yH.out,FX.out⟩
theorem Px (a b c d:ByteArray) (w:World):
  (Go.binOp BinOp.neq 96 (.agg #[.string a,.string b]) (.agg #[.string c,.string d])).run Tryz.prog w= .ok (.bool (!(a.toList==c.toList && b.toList==d.toList))) w:=by
 have hf:(Tryz.prog.fieldsOf 96).toList.map (fun f=>(f.name,f.type,f.offset))=[("Name",9,0),("Value",9,1)]:=by kernel_rfl
 have hu:Tryz.prog.underlying 96=some (.struct (Tryz.prog.fieldsOf 96)):=by kernel_rfl
 have hs:Tryz.prog.stoodInHeld 96=false:=by kernel_rfl
 obtain ⟨f0,r0,e0,hf0,hr0⟩:=List.map_eq_cons_iff.1 hf
 obtain ⟨f1,r1,e1,hf1,hr1⟩:=List.map_eq_cons_iff.1 hr0
 have er:r1=[]:=List.map_eq_nil_iff.1 hr1
 subst er
 subst e1
 simp only [Prod.mk.injEq] at hf0 hf1
 have hp0: ∀(x y:Value) (w:World),(part 9 #[x,y] 0).run Tryz.prog w= .ok x w:=fun x y w=>by kernel_rfl
 have hp1: ∀(x y:Value) (w:World),(part 9 #[x,y] 1).run Tryz.prog w= .ok y w:=fun x y w=>by kernel_rfl
 have hi: ∀(d:Nat) (x y:ByteArray) (w:World),(Op.equalIn (d+1) 9 (.string x) (.string y)).run Tryz.prog w= .ok (x.toList==y.toList) w:=fun d x y w=>run_equalIn_string w d _ x y Tryz.underlying9
 rw [run_neq_struct,show (10000:Nat)=9999+1 from rfl,run_equalIn_agg w 9999 _ _ _ hu hs,e0]
 simp only [Op.eqFields,hf0.1,hf0.2.1,hf0.2.2,hf1.1,hf1.2.1,hf1.2.2]
 have hi9:=fun (x y:ByteArray) (w:World)=>hi 9998 x y w
 cases h1:(a.toList==c.toList)<;>cases h2:(b.toList==d.toList)<;>simp [Sem.run_bind,Sem.run_ite,hp0,hp1,hi9,h1,h2]
theorem var_eq (p q:ByteArray × ByteArray):(p.1.toList==q.1.toList && p.2.toList==q.2.toList)=decide (p=q):=by
 obtain ⟨a,b⟩:=p
 obtain ⟨c,d⟩:=q
 rw [Bool.eq_iff_iff,Bool.and_eq_true,beq_iff_eq,beq_iff_eq,decide_eq_true_iff,Prod.mk.injEq,Lib.toList_data,Lib.toList_data,Lib.toList_data,Lib.toList_data]
 exact and_congr ⟨fun h=>pG h,fun h=>by rw [h]⟩ ⟨fun h=>pG h,fun h=>by rw [h]⟩
theorem Zl {a b:Vl} {k:Nat} {p q:ByteArray × ByteArray} (ha:a[k]? =some p) (hb:b[k]? =some q) (h: ¬p=q):decide (a=b)=false:=decide_eq_false fun e=>h (by rw [e,hb] at ha;exact (Option.some.inj ha).symm)
theorem G9 (va vb:Value) (a b:Vl) (w:World) (ha:VS w va a) (hb:VS w vb b) (hl:a.length≤1000000) (hl2:b.length≤1000000):Calls Tryz.prog 14 #[va,vb] w fun e w'=>e= .returned (.bool (decide (a=b)))∧Below w.heap.size w w':=by
 obtain ⟨ad,ac,rfl⟩: ∃ad ac,va= .slice ad a.length ac:=by
  rcases ha with ⟨rfl,x,y,h⟩ | ⟨x,y,z,h,_⟩
  ·exact ⟨x,y,h⟩
  ·exact ⟨_,z,h⟩
 obtain ⟨bd,bc,rfl⟩: ∃bd bc,vb= .slice bd b.length bc:=by
  rcases hb with ⟨rfl,x,y,h⟩ | ⟨x,y,z,h,_⟩
  ·exact ⟨x,y,h⟩
  ·exact ⟨_,z,h⟩
 have HA:=Lib.hid ha
 have HB:=Lib.hid hb
 have NE:=Px
 obtain ⟨n,hn⟩: ∃n,n=a.length:=⟨_,rfl⟩
 obtain ⟨m,hm⟩: ∃m,m=b.length:=⟨_,rfl⟩
 have HN:=Lib.hid hn
 have HM:=Lib.hid hm
 rw [←hn] at hl
 rw [←hm] at hl2
 rw [←hn, ←hm]
 clear ha hb hn hm
 by_cases hnm:n=m
 ·subst hnm
  go_enter Tryz.func14,Tryz.ntmps14
  go_wp2_with fail
  go_loopw [13] (fun i X=> ∃k,i= .int .i64 (k:Nat)∧k≤n∧(∀j,j<k→a[j]? =b[j]?)∧Below w.heap.size w X) (fun i _=>n - (intOf i).toNat)
  case atStart=>exact ⟨0,rfl,Nat.zero_le _,fun j hj=>by omega,Below.refl _ _⟩
  case round=>
   obtain ⟨k,rfl,hk,hsm,hbl⟩:=hrel
   have lM:=Lib.hid hbl
   have HSM:=Lib.hid hsm
   clear hbl hsm
   by_cases hlt:k<n
   ·have sO:k<a.length:=by rw [←HN.out];exact hlt
    have Ti:k<b.length:=by rw [←HM.out];exact hlt
    obtain ⟨p,hp⟩: ∃x,a[k]? =some x:=⟨a[k],List.getElem?_eq_getElem sO⟩
    obtain ⟨q,hq⟩: ∃x,b[k]? =some x:=⟨b[k],List.getElem?_eq_getElem Ti⟩
    obtain ⟨g,o,cap,hv,hg,hc⟩: ∃g o cap,(.slice ad a.length ac:Value)= .slice (some ⟨g,o,none⟩) a.length cap∧g<wr.heap.size∧ ∀(j:Nat) (p:ByteArray × ByteArray),a[j]? =some p→wr.cell? ⟨g,o+j*2,none⟩=some (.string p.1)∧wr.cell? ⟨g,o+j*2+1,none⟩=some (.string p.2):=by
     rcases HA.out.below lM.out with ⟨h0,_⟩ | h
     ·rw [h0] at sO;simp at sO
     ·exact h
    obtain ⟨g',o',cap',hv',hg',hc'⟩: ∃g o cap,(.slice bd b.length bc:Value)= .slice (some ⟨g,o,none⟩) b.length cap∧g<wr.heap.size∧ ∀(j:Nat) (p:ByteArray × ByteArray),b[j]? =some p→wr.cell? ⟨g,o+j*2,none⟩=some (.string p.1)∧wr.cell? ⟨g,o+j*2+1,none⟩=some (.string p.2):=by
     rcases HB.out.below lM.out with ⟨h0,_⟩ | h
     ·rw [h0] at Ti;simp at Ti
     ·exact h
    simp only [Value.slice.injEq] at hv hv'
    obtain ⟨rfl,_,_⟩:=hv
    obtain ⟨rfl,_,_⟩:=hv'
    obtain ⟨p0,p1⟩:=hc k p hp
    obtain ⟨q0,q1⟩:=hc' k q hq
    have HP:=Lib.hid hp
    have HQ:=Lib.hid hq
    have WW:(k:Int)<(n:Int):=by omega
    clear hc hc' hp hq hg hg'
    by_cases hpq:p=q
    ·subst hpq
     have e1:(p.1.toList==p.1.toList && p.2.toList==p.2.toList)=true:=by rw [var_eq];exact decide_eq_true rfl
     have hneq: ∀X:World,(Go.binOp BinOp.neq 96 (.agg #[.string p.1,.string p.2]) (.agg #[.string p.1,.string p.2])).run Tryz.prog X= .ok (.bool false) X:=fun X=>by rw [NE,e1];rfl
     clear NE e1
     go_wp2_with fail
     go_quiet (fail)
     go_wp2_with fail
     go_roundw
     case rel=>exact ⟨k+1,by go_num,by omega,fun j hj=>by
      rcases Nat.lt_or_ge j k with h | h
      ·exact HSM.out j h
      ·obtain rfl:j=k:=by omega
       rw [HP.out,HQ.out],below_drewN lM.out _⟩
     case measure=>simp [intOf];omega
    ·have e1:(p.1.toList==q.1.toList && p.2.toList==q.2.toList)=false:=by rw [var_eq];exact decide_eq_false hpq
     have hneq: ∀X:World,(Go.binOp BinOp.neq 96 (.agg #[.string p.1,.string p.2]) (.agg #[.string q.1,.string q.2])).run Tryz.prog X= .ok (.bool true) X:=fun X=>by rw [NE,e1];rfl
     have hres:=Zl HP.out HQ.out hpq
     have TU:=Lib.hid hres
     clear NE e1 hres
     go_wp2_with fail
     go_quiet (fail)
     go_wp2_with fail
     go_ret
     exact ⟨congrArg (fun x=>Ending.returned (.bool x)) TU.out.symm,below_drewN lM.out _⟩
   ·have hke:k=n:=by omega
    subst hke
    have hres:decide (a=b)=true:=decide_eq_true (List.ext_getElem? fun j=>by
     rcases Nat.lt_or_ge j k with h | h
     ·exact HSM.out j h
     ·rw [List.getElem?_eq_none (by have:=HN.out;omega),List.getElem?_eq_none (by have:=HM.out;omega)])
    have TU:=Lib.hid hres
    clear hres
    go_wp2_with fail
    go_ret
    exact ⟨congrArg (fun x=>Ending.returned (.bool x)) TU.out.symm,lM.out⟩
 ·have hres:decide (a=b)=false:=decide_eq_false fun e=>hnm (by rw [HN.out,HM.out,e])
  rw [hres]
  have hnmI:decide ((n:Int)=(m:Int))=false:=decide_eq_false (by omega)
  have hnmI2:decide (n=m)=false:=decide_eq_false hnm
  go_enter Tryz.func14,Tryz.ntmps14
  go_wp2_with fail
  go_ret
  exact ⟨rfl,Below.refl _ _⟩
end Go.Proofs.YtacfglopionkfaaGreatDoor
