import Derived.Test.YtacfglopionkfaaGreatDoorAcVi
import Derived.Test.YtacfglopionkfaaGreatDoorKRt
import Derived.Test.YtacfglopionkfaaGreatDoorShelfG
namespace Go.Proofs.YtacfglopionkfaaGreatDoor
set_option maxRecDepth 100000
open Go.RowKit Go.WideMaps Go.Maps Go.Shelf
attribute [local go_sem] Oper.semAt_some
theorem wL {A A':World} {row:Option Nat} {b:Nat} {c:Array Value} {T:TypeId} {z:Nat × Nat} (h:A.heap[b]? =some (.cells c T z)) (hg:A.grownBy A' row) (hr: ∀r,row=some r→ ∃o:Obj,A.heap[r]? =some o∧o.isCells=false):A'.heap[b]? =some (.cells c T z):=
 (hg.block b (aV h) (fun e=>by
  obtain ⟨o,ho,hoc⟩:=hr b e.symm
  rw [h] at ho
  rw [←Option.some.inj ho] at hoc
  cases hoc)).trans h
theorem wO {A A':World} {row:Option Nat} {B:Nat} {v:Value} {n:Nat} {xs:List Value} (h:A.ownsRow B 96 2 v n xs) (hg:A.grownBy A' row) (hr: ∀r,row=some r→ ∃o:Obj,A.heap[r]? =some o∧o.isCells=false):A'.ownsRow B 96 2 v n xs:=
 h.kept hg (by
  rcases h.2 with ⟨rfl,_⟩ | ⟨g,cap,cur,rfl,_,hgb,_⟩
  ·exact Or.inl rfl
  ·refine Or.inr fun e=>?_
   obtain ⟨o,ho,hoc⟩:=hr g e.symm
   rw [hgb] at ho
   rw [←Option.some.inj ho] at hoc
   cases hoc)
theorem Aa {w w':World} (h:Below w.heap.size w w'):KeepsOthers w w':=⟨h.size,fun k _ hk _=>(h.block k (aV hk)).trans hk⟩
structure CoV (w:World) (L:Vl) (X:World):Prop where
 box: ∃v,X.heap[w.heap.size]? =some (.cells #[v] 38 (0,0))∧X.ownsRow w.heap.size 96 2 v L.length (fE L)
 bel:Below w.heap.size w X
set_option maxHeartbeats 4000000 in
theorem wZ (Bm mb N:Nat) (D0:DataW Unit) (vl:Vl) (hris:vl.lS) (hrep:rP D0 vl) (hN:N≤1000000) (w:World) (hBm:Bm<w.heap.size) (hm:w.cell? ⟨Bm,0,none⟩=some (.map (some mb))) (hown:w.ownsMap Tryz.prog 9 zf mb N D0):
  Calls Tryz.prog 119 #[.slice none 0 0,.func (.func 89) #[] #[.pointer (some ⟨Bm,0,none⟩)]] w fun e W'=>(∃v xs,e= .returned v∧xs.Perm vl∧W'.ownsRow w.heap.size 96 2 v xs.length (fE xs))∧Below w.heap.size w W':=by
 have hsz:Maps.size D0≤1000000:=Nat.le_trans hown.size_le hN
 obtain ⟨i0,z0,hi0,hz0,hz1,hz2,hz3⟩:=yI
 refine (callsIn_wide (n:=4)).1 ?_
 refine callsIn_of_wp_marks Tryz.func119 rfl trivial ?_ rfl
 simp only [Tryz.ntmps119,List.size_toArray,List.length_cons,List.length_nil,Nat.reduceAdd,Nat.reduceSub,Array.replicate_succ,Array.replicate_zero,List.push_toArray,List.append_toArray,List.nil_append,List.cons_append]
 gi_wp2
 obtain ⟨W0,hW0⟩: ∃W0,w.alloc (.cells #[.slice none 0 0] 38)=W0:=⟨_,rfl⟩
 have hs0:W0.heap.size=w.heap.size+1:=by rw [←hW0];simp
 have hB0:W0.heap[w.heap.size]? =some (.cells #[.slice none 0 0] 38 (0,0)):=by rw [←hW0];exact World.alloc_heap_new w _
 have hBW:Below w.heap.size w W0:=by rw [←hW0];exact (Below.refl _ w).alloc (Nat.le_refl _) _
 have hm0:W0.cell? ⟨Bm,0,none⟩=some (.map (some mb)):=(hBW.cell (p:=⟨Bm,0,none⟩) hBm).trans hm
 have hown0:=qK hown (hBW.block mb hown.lt)
 rw [hW0]
 refine wpIn_rangeFunc_ownH (α:=ByteArray × ByteArray) rfl (by decide) (gf:=89) (lb:= #[.pointer (some ⟨Bm,0,none⟩)]) rfl trivial (enters_of Tryz.func89 (by kernel_rfl) rfl)
  (values_stops Fence.wide _ trivial rfl (by decide) Bm mb N D0 vl hris hrep W0 (by omega) hm0 hown0) walksK_t walksK_b (Below.refl _ _) (fun x=>rfl)
  (fun pre W=>CoV w pre W)
  (fun _ _ _=>False)
  (fun s X X' row hs hg hr=>by
   obtain ⟨v,h1,h2⟩:=hs.box
   exact ⟨⟨v,wL h1 hg (fun r e=>(hr r e).2),wO h2 hg (fun r e=>(hr r e).2)⟩,hs.bel.grown hg hs.bel.size (fun k e=>by have:=(hr k e).1;omega)⟩)
  (fun _ _ _ _ _ hs _ _=>hs)
  ⟨⟨_,hB0,World.ownsRow_nil _ _ _ _⟩,hBW⟩
  (fun x a' W=> ∃Bx,W.heap[Bx]? =some (.cells #[.string x.1,.string x.2] 96 (0,0))∧a'={tmps:= #[.slice none 0 0,.func (.func 89) #[] #[.pointer (some ⟨Bm,0,none⟩)],.pointer (some ⟨w.heap.size,0,none⟩),undef,.slice none 0 0,.pointer (some ⟨Bx,0,none⟩),.func (.func 89) #[] #[.pointer (some ⟨Bm,0,none⟩)],.agg #[.string x.1,.string x.2],undef,undef,undef,undef,undef],defers:=[]})
  (fun x a' s X X' row hs hg hr=>by obtain ⟨Bx,h1,h2⟩:=hs;exact ⟨Bx,wL h1 hg (fun r e=>(hr r e).2),h2⟩) ?assign ?body ?done ?stop
 case assign=>
  intro l pre x W K hi hK
  have hb:Below W.heap.size W (W.alloc (.cells #[.string x.1,.string x.2] 96)):=(Below.refl _ _).alloc (Nat.le_refl _) _
  obtain ⟨v,h1,h2⟩:=hi.box
  have hK:=hK _ (W.alloc (.cells #[.string x.1,.string x.2] 96)) ((Aa hb).from _) (KeepsWalks.alloc _ _) ⟨⟨v,fO h1 _,bH h2 hb⟩,hi.bel.alloc hi.bel.size _⟩ ⟨W.heap.size,dN W _,rfl⟩
  have HK:=Lib.hid hK
  clear hK hi h1 h2 hb
  gi_wp2
  exact HK.out
 case body=>
  rintro l pre x a' W hl ⟨lr,hlr⟩ hi ⟨Bx,hBx,rfl⟩ Y0
  obtain ⟨v,h1,h2⟩:=hi.box
  obtain ⟨va,vc,rfl⟩:=dW h2
  obtain ⟨c0,cf,cz⟩:=bU h1
  obtain ⟨q0,q1⟩:W.cell? ⟨Bx,0,none⟩=some (.string x.1)∧W.cell? ⟨Bx,1,none⟩=some (.string x.2):=⟨(Lib.cell_of_heap hBx 0).trans rfl,(Lib.cell_of_heap hBx 1).trans rfl⟩
  have qz:=aV hBx
  obtain ⟨p,hp⟩: ∃p,p=pre.length:=⟨_,rfl⟩
  have hb:Below W.heap.size W (W.alloc (.cells #[.string x.1,.string x.2] 96)):=(Below.refl _ _).alloc (Nat.le_refl _) _
  have h2a:=bH h2 hb
  have h1a:=fO h1 (.cells #[.string x.1,.string x.2] 96)
  have H2A:=Lib.hid h2a
  have H1A:=Lib.hid h1a
  have HI:=Lib.hid hi
  have HPL:=Lib.hid Y0
  clear h1 h2 h2a h1a hb hBx hi Y0
  gi_wp2_with (first
   | (gi_at_builtin;refine wpListIn_append_own _ rfl (.tmp 8) (.tmp 10) 38 rfl w.heap.size 96 i0 z0 2 32 Tryz.underlying38 hi0 hz0 hz1 hz2 hz3 (by decide) (.slice va pre.length vc) pre.length (fE pre) rfl H2A.out ⟨W.heap.size,0,none⟩ 1 1 (Bg x) rfl rfl (Ri (dN W _)) (zN x) (by have:=HPL.out;unfold maxLen;omega) (by have:=HPL.out;omega) (by have:=HI.out.bel.size;simp only [World.size_alloc];omega) ?_
      intro v' w3 hown' hg3 hnil3
      obtain ⟨b',c',rfl⟩:=BN hown' (by omega)
      have h1':=nI H1A.out hg3 (vC H2A.out H1A.out (by decide))
      obtain ⟨c0',cf',cz'⟩:=bU h1'
      have H1B:=Lib.hid h1'
      have HOW:=Lib.hid hown'
      have Rf:=Lib.hid hg3
      clear h1' hown' hg3 hnil3)
   | gi_in)
  have hko:KeepsOthers W (w3.setCell ⟨w.heap.size,0,none⟩ (.slice (some ⟨b',0,none⟩) (pre.length+1) c')):=((KeepsOthers.alloc W _).trans (KeepsOthers.of_grownBy Rf.out (fun j o hj ho=>by
   rcases H2A.out.2 with ⟨e,_⟩ | ⟨g,cap,cur,e,_,hgb,_⟩
   ·rw [e] at hj;cases hj
   ·rw [e] at hj
    obtain rfl:g=j:=by simpa [Value.ownBlock] using hj
    rw [hgb] at ho
    rw [←Option.some.inj ho]
    rfl))).trans (KeepsOthers.setCell _ _ _)
  refine ⟨hko.from _,hko.walks,⟨_,wI H1B.out,?_⟩,?_⟩
  ·rw [List.length_append,List.length_singleton,wE]
   simpa [fE] using BM HOW.out H1B.out (by decide) 0 _
  ·exact ((HI.out.bel.alloc HI.out.bel.size _).grown Rf.out (by have:=HI.out.bel.size;simp only [World.size_alloc];omega) (fun k e=>(H2A.out.lt k e).1)).setCell (p:=⟨w.heap.size,0,none⟩) (Nat.le_refl _) _
 case done=>
  rintro D xs W hD hpm hi hK
  obtain ⟨v,h1,h2⟩:=hi.box
  obtain ⟨va,vc,rfl⟩:=dW h2
  obtain ⟨c0,cf,cz⟩:=bU h1
  have HI:=Lib.hid hi
  have H2:=Lib.hid h2
  have HKD:=Lib.hid hK
  clear hi h1 h2 hK
  gi_wp2
  refine ⟨by simp,.inl ⟨_,_,rfl,run_takeDeferred HKD.out,?_⟩⟩
  refine ⟨.slice va xs.length vc,?_,⟨_,xs,rfl,hpm,wO H2.out (grownBy_putObj' _ D (.deferred none)) (fun r e=>by cases e;exact ⟨_,HKD.out,rfl⟩)⟩,HI.out.bel.trans (belowK_b (w:=w) (Nat.le_refl _) _ D _ _ (by omega) HKD.out rfl rfl)⟩
  simp [results,Tryz.f119,go_sem]
 case stop=>
  rintro D c pre W _ _ hF _
  exact hF.elim
end Go.Proofs.YtacfglopionkfaaGreatDoor
namespace Go.Proofs.YtacfglopionkfaaGreatDoor
set_option maxRecDepth 100000
open Go.RowKit Go.WideMaps Go.Maps Go.Shelf Go.Sort
theorem Kt: ∀x y:List UInt8,decide (Lib.compareBytes x y<0)=decide (x<y)
 | [],[]=>by simp [Lib.compareBytes]
 | [],_::_=>by simp [Lib.compareBytes]
 | _::_,[]=>by simp [Lib.compareBytes]
 | a::x,b::y=>by
  rw [Lib.compareBytes]
  have ih:=Kt x y
  by_cases h1:a<b
  ·simp [h1,List.cons_lt_cons_iff]
  ·by_cases h2:b<a
   ·have hne: ¬a=b:=fun e=>by subst e;exact h1 h2
    simp [h1,h2,hne,List.cons_lt_cons_iff]
   ·have he:a=b:=UInt8.le_antisymm (UInt8.not_lt.1 h2) (UInt8.not_lt.1 h1)
    subst he
    rw [if_neg h1,if_neg h2,ih]
    simp
def WH (x y:ByteArray × ByteArray):Int:=Lib.compareBytes x.1.data.toList y.1.data.toList
theorem zx (x y:ByteArray × ByteArray):ltOf WH x y=decide (kF x.1<kF y.1):=Kt _ _
theorem swoV:SWO (ltOf WH) where
 irrefl x:=by rw [zx];exact decide_eq_false (jD _)
 trans x y z h k:=by rw [zx,decide_eq_true_eq] at*;exact sD h k
 ntrans x y z h k:=by
  rw [zx,decide_eq_false_iff_not] at*
  intro e
  rcases D6 (kF y.1) (kF z.1) with q | q | q
  ·exact k q
  ·rw [←q] at e;exact h e
  ·exact h (sD e q)
theorem LX (ps:Vl) (t:Nat) (ht:t<ps.length*2):(Sort.flatK Bg 2 ps.toArray)[t]! =(fE ps)[t]! :=by
 rw [Sort.get_flatK _ _ _ t (by simpa using ht)]
 have hd:t / 2<ps.length:=by omega
 obtain ⟨h0,h1⟩:=zI ps (t / 2) ps[t / 2] (List.getElem?_eq_getElem hd)
 have h2:(ps.toArray)[t / 2]! =ps[t / 2]:=by simp [getElem!_pos,hd]
 rw [h2]
 rcases Nat.mod_two_eq_zero_or_one t with e | e
 ·have e2:t / 2*2=t:=by omega
  rw [e2] at h0
  simp only [List.getElem!_eq_getElem?_getD,h0,e]
  rfl
 ·have e2:t / 2*2+1=t:=by omega
  rw [e2] at h1
  simp only [List.getElem!_eq_getElem?_getD,h1,e]
  rfl
theorem yX (ps:Vl):(Sort.flatK Bg 2 ps.toArray)=(fE ps).toArray:=by
 refine Sort.ext_get! (by rw [Sort.size_flatK];simp [oM]) fun t ht=>?_
 rw [Sort.size_flatK] at ht
 rw [LX ps t (by simpa using ht)]
 have hlt:t<(fE ps).length:=by rw [oM];simpa using ht
 simp [getElem!_pos,hlt]
theorem holdsV {w:World} {B g cap n:Nat} {ps:Vl} (h:w.ownsRow B 96 2 (.slice (some ⟨g,0,none⟩) n cap) n (fE ps)):Sort.HoldsK Bg 2 w g 0 ps.toArray:=by
 unfold Sort.HoldsK
 rw [yX]
 intro j hj
 have hj':j<(fE ps).length:=by simpa using hj
 have:=h.cells (g:=g) rfl j (fE ps)[j] (List.getElem?_eq_getElem hj')
 rw [Nat.zero_add]
 refine ⟨?_,h.frozenAt j⟩
 rw [WideShapes.add_plain,Nat.zero_add] at this
 rw [this]
 simp [getElem!_pos,hj']
theorem Ll {w:World} {B g cap n q:Nat} {ps qs:Vl} (h:w.ownsRow B 96 2 (.slice (some ⟨g,0,none⟩) n cap) n (fE ps)) (hl:qs.length=n):
  (Sort.putRowK Bg 2 (Sort.ahead w q) g 0 qs.toArray).ownsRow B 96 2 (.slice (some ⟨g,0,none⟩) n cap) n (fE qs):=by
 unfold Sort.putRowK
 rw [yX]
 rcases h.2 with ⟨e0,_⟩ | ⟨g',cap',cur,e0,hb,hg,hn,hm,hs,ht⟩
 ·cases e0
 ·injection e0 with e1 _ e3
  injection e1 with e1
  injection e1 with e1
  subst e1;subst e3
  refine ⟨by rw [oM,hl],.inr ⟨g,cap,Sort.putCells id 0 (fE qs).toArray cur,rfl,hb,?_,hn,hm,by simpa [Sort.putCells] using hs,?_⟩⟩
  ·simp [Sort.putRow,Sort.mapBlock,Sort.ahead,Array.getElem?_modify,hg,Sort.onCells]
  ·have hcl:=oM qs
   apply List.ext_getElem?
   intro j
   rw [List.getElem?_take,Array.getElem?_toList]
   by_cases hj:j<n*2
   ·have hjc:j<cur.size:=by rw [hs];omega
    have hjq:j<(fE qs).length:=by omega
    rw [if_pos hj]
    simp only [Sort.putCells,Array.getElem?_mapIdx,Array.getElem?_eq_getElem hjc,Option.map_some]
    rw [if_pos (by simp;omega),List.getElem?_eq_getElem hjq]
    simp [getElem!_pos,hjq]
   ·rw [if_neg hj,List.getElem?_eq_none (by omega)]
theorem below_grow (w:World) (os:Array Obj):Below w.heap.size w (grow w os):=⟨rfl,rfl,rfl,by simp [grow],fun k hk=>by simp only [grow];rw [Array.getElem?_append_left hk]⟩
theorem EL (w:World) (g q:Nat) (d:Array (ByteArray × ByteArray)):w.grownBy (Sort.putRowK Bg 2 (Sort.ahead w q) g 0 d) (some g):=
 ⟨rfl,rfl,rfl,by simp [Sort.putRowK,Sort.putRow,Sort.mapBlock,Sort.ahead],fun k _ hne=>by
  have:g≠k:=fun e=>hne (by rw [e])
  simp [Sort.putRowK,Sort.putRow,Sort.mapBlock,Sort.ahead,Array.getElem?_modify,this]⟩
set_option maxHeartbeats 2000000 in
theorem Me (x y:ByteArray × ByteArray) (W:World):Calls Tryz.prog 51 #[.agg #[.string x.1,.string x.2],.agg #[.string y.1,.string y.2]] W fun e w'=>e= .returned (.int .i64 (WH x y))∧ ∃q os',w'=grow (W.drewN q) os':=by
 have hcon:=fun W'=>Tryz.strings_Compare x.1 y.1 W'
 unfold WH
 generalize Lib.compareBytes x.1.data.toList y.1.data.toList=r at hcon⊢
 go_enter Tryz.func51,Tryz.ntmps51
 go_wp2_with fail
 refine (hcon _).mono ?_
 rintro e w' ⟨rfl,rfl⟩
 go_wp2_with fail
 go_ret
 exact ⟨rfl,0,_,by rw [alloc_eq_grow,alloc_eq_grow,grow_grow];rfl⟩
theorem Qg: ∀w:World,(isAgg 96).run Tryz.prog w= .ok true w:=fun _=>by kernel_rfl
theorem KP: ∀w:World,(Go.sizeOf 96).run Tryz.prog w= .ok 2 w:=fun _=>by kernel_rfl
theorem G6 {xs vl:Vl} {d':Array (ByteArray × ByteArray)} (hp:xs.Perm vl) (hr:vl.lS) (hP:PermIn 0 xs.toArray.size xs.toArray d') (hS:SortedIn (ltOf WH) 0 xs.toArray.size d'):d'=vl.toArray:=by
 have hsz:d'.size=xs.length:=by rw [hP.1];simp
 have hpe:d'.toList.Perm xs:=by
  have:=hP.2.2
  rw [Array.extract_eq_self_of_le (by rw [hsz];simp),Array.extract_eq_self_of_le (by simp)] at this
  simpa using this
 have hpv:=hpe.trans hp
 have hnd:d'.toList.Nodup:=hpv.nodup_iff.2 (rY hr)
 have hri:Vl.lS d'.toList:=by
  unfold Vl.lS
  rw [List.pairwise_iff_getElem]
  intro i j hi hj hij
  have h1:=hS i j (Nat.zero_le _) hij (by simp at hj⊢;omega)
  have gi:d'[i]! =d'.toList[i]:=by simp at hi;simp [getElem!_pos,hi]
  have gj:d'[j]! =d'.toList[j]:=by simp at hj;simp [getElem!_pos,hj]
  rw [zx,decide_eq_false_iff_not,gi,gj] at h1
  rcases D6 (kF d'.toList[i].1) (kF d'.toList[j].1) with q | q | q
  ·exact q
  ·exfalso
   have mi:=(iD hr).2 (show (d'.toList[i].1,d'.toList[i].2)∈vl from hpv.mem_iff.1 (List.getElem_mem hi))
   have mj:=(iD hr).2 (show (d'.toList[j].1,d'.toList[j].2)∈vl from hpv.mem_iff.1 (List.getElem_mem hj))
   have en:=pG q
   rw [en,mj] at mi
   have e:d'.toList[i]=d'.toList[j]:=Prod.ext en (Option.some.inj mi).symm
   exact (List.pairwise_iff_getElem.1 hnd) i j hi hj hij e
  ·exact absurd q h1
 have:=JZ hri hr (fun x=>hpv.mem_iff)
 rw [←this]
set_option maxHeartbeats 2000000 in
theorem Ae (Bm mb N:Nat) (D0:DataW Unit) (vl:Vl) (hris:vl.lS) (hrep:rP D0 vl) (hN:N≤1000000) (w:World) (hBm:Bm<w.heap.size) (hm:w.cell? ⟨Bm,0,none⟩=some (.map (some mb))) (hown:w.ownsMap Tryz.prog 9 zf mb N D0):
  Calls Tryz.prog 87 #[.func (.func 89) #[] #[.pointer (some ⟨Bm,0,none⟩)]] w fun e W'=>(∃v xs,e= .returned v∧xs.Perm vl∧W'.ownsRow w.heap.size 96 2 v xs.length (fE xs))∧Below w.heap.size w W':=by
 have HA:=Lib.hid (wZ Bm mb N D0 vl hris hrep hN w hBm hm hown)
 clear hris hrep hBm hm hown
 go_enter Tryz.func87,Tryz.ntmps87
 go_wp2_with fail
 refine HA.out.mono ?_
 rintro e w1 ⟨⟨v,xs,rfl,hp,ho⟩,hb1⟩
 obtain ⟨va,vc,rfl⟩:=dW ho
 have HB1:=Lib.hid hb1
 have HO:=Lib.hid ho
 clear hb1 ho
 go_wp2_with fail
 go_ret
 exact ⟨⟨_,xs,rfl,hp,HO.out⟩,HB1.out⟩
theorem G7 (B:Nat) (v:Value) (xs vl:Vl) (w:World) (h:w.ownsRow B 96 2 v xs.length (fE xs)) (hp:xs.Perm vl) (hr:vl.lS) (hl:vl.length≤1000000):
  Calls Tryz.prog 88 #[v,.func (.func 51) #[] #[]] w fun e w'=>e= .returned (.tuple #[])∧w'.ownsRow B 96 2 v vl.length (fE vl)∧Below B w w':=by
 have hlen:=hp.length_eq
 rcases h.2 with ⟨rfl,h0⟩ | ⟨g,cap,cur,rfl,hB,hg,_⟩
 ·obtain rfl:xs=[]:=List.length_eq_zero_iff.1 h0
  obtain rfl:vl=[]:=List.length_eq_zero_iff.1 (by rw [←hlen];rfl)
  refine (BG _ w).mono ?_
  rintro e w' ⟨rfl,rfl⟩
  exact ⟨rfl,h,Below.refl _ _⟩
 ·have eg: ∀args w,(callFunc 51 args).run Tryz.prog w= .ok (.enter 51 args) w:=enters_of Tryz.func51 (by kernel_rfl) rfl
  have hS:=Go.Proofs.AnyQ.slices_SortFunc Tryz.lsort 2 Qg KP Bg (fun _=>rfl) zN WH swoV 51 #[] g 0 cap xs.toArray w eg (fun _ _ _ _ x y=>Me x y _) (holdsV h) (aV hg) (by simp;omega)
  rw [List.size_toArray] at hS
  refine Calls.mono (show Calls Tryz.prog 88 _ _ _ from hS) ?_
  rintro e w' ⟨rfl,d',n,os,hP,hSd,rfl⟩
  obtain rfl:=G6 hp hr (by rw [List.size_toArray];exact hP) (by rw [List.size_toArray];exact hSd)
  have ho:=Ll (q:=n) h (qs:=vl) hlen.symm
  have hgr:=EL w g n vl.toArray
  have hbw:=below_grow (Sort.putRowK Bg 2 (Sort.ahead w n) g 0 vl.toArray) os
  refine ⟨rfl,?_,((Below.refl B w).grown hgr (by have:=aV hg;omega) (fun k e=>by rw [←Option.some.inj e];exact hB)).trans (hbw.mono (by have:=hgr.size;have:=aV hg;omega))⟩
  rw [←hlen]
  exact bH ho hbw
set_option maxHeartbeats 2000000 in
theorem CG (Bm mb N:Nat) (D0:DataW Unit) (vl:Vl) (hris:vl.lS) (hrep:rP D0 vl) (hN:N≤1000000) (hl:vl.length≤1000000) (w:World) (hBm:Bm<w.heap.size) (hm:w.cell? ⟨Bm,0,none⟩=some (.map (some mb))) (hown:w.ownsMap Tryz.prog 9 zf mb N D0):
  Calls Tryz.prog 49 #[.func (.func 89) #[] #[.pointer (some ⟨Bm,0,none⟩)],.func (.func 51) #[] #[]] w fun e W'=>(∃v,e= .returned v∧W'.ownsRow w.heap.size 96 2 v vl.length (fE vl))∧Below w.heap.size w W':=by
 have HC:=Lib.hid (Ae Bm mb N D0 vl hris hrep hN w hBm hm hown)
 have HS:Hid (∀(v:Value) (xs:Vl) (X:World),X.ownsRow w.heap.size 96 2 v xs.length (fE xs)→xs.Perm vl→Calls Tryz.prog 88 #[v,.func (.func 51) #[] #[]] X fun e w'=>e= .returned (.tuple #[])∧w'.ownsRow w.heap.size 96 2 v vl.length (fE vl)∧Below w.heap.size X w'):=Lib.hid (fun v xs X h1 h2=>G7 w.heap.size v xs vl X h1 h2 hris hl)
 clear hris hrep hBm hm hown
 go_enter Tryz.func49,Tryz.ntmps49
 go_wp2_with fail
 refine HC.out.mono ?_
 rintro e w1 ⟨⟨v,xs,rfl,hp,ho⟩,hb1⟩
 obtain ⟨va,vc,rfl⟩:=dW ho
 have HB1:=Lib.hid hb1
 have HSX:=Lib.hid (HS.out _ xs w1 ho hp)
 clear hb1 ho hp
 go_wp2_with fail
 refine HSX.out.mono ?_
 rintro e w2 ⟨rfl,ho2,hb2⟩
 have HB2:=Lib.hid hb2
 have Ai:=Lib.hid ho2
 clear hb2 ho2
 go_wp2_with fail
 go_ret
 exact ⟨⟨_,rfl,Ai.out⟩,HB1.out.trans HB2.out⟩
set_option maxHeartbeats 2000000 in
theorem uT (vb N:Nat) (mo:Option Nat) (l:Vl) (w:World) (hv:aZ w vb mo N l) (hN:N≤1000000) (hl:l.length≤1000000):Calls Tryz.prog 15 #[.pointer (some ⟨vb,0,none⟩)] w fun e w'=>(∃v,e= .returned v∧VS w' v l)∧Below w.heap.size w w':=by
 cases mo with
 | none=>
  obtain rfl:=hv.none rfl
  refine (LM vb w hv.blk).mono ?_
  rintro e w' ⟨rfl,hb⟩
  exact ⟨⟨_,rfl,Or.inl ⟨rfl,_,_,rfl⟩⟩,hb⟩
 | some mb=>
  obtain ⟨D,hown,hrep⟩:=hv.own mb rfl
  have HV:=Lib.hid wJ
  obtain ⟨W0,hW0⟩: ∃W0,W0=w.alloc (.cells #[.map (some mb)] 101):=⟨_,rfl⟩
  have hs0:W0.heap.size=w.heap.size+1:=by rw [hW0];simp
  have hb0:Below w.heap.size w W0:=by rw [hW0];exact (Below.refl _ _).alloc (Nat.le_refl _) _
  have HS:Hid (Calls Tryz.prog 49 #[.func (.func 89) #[] #[.pointer (some ⟨w.heap.size,0,none⟩)],.func (.func 51) #[] #[]] W0 fun e W'=>(∃v,e= .returned v∧W'.ownsRow W0.heap.size 96 2 v l.length (fE l))∧Below W0.heap.size W0 W'):=
   Lib.hid (CG w.heap.size mb N D l hv.F9 hrep hN hl W0 (by omega) (by rw [hW0];exact (bU (dN w _)).1) (qK hown (hb0.block mb hown.lt)))
  obtain ⟨c0,_,hz⟩:=bU hv.blk
  have HW0:=Lib.hid hW0
  have HB0:=Lib.hid hb0
  clear hv hown hrep hW0 hb0 hs0
  go_enter Tryz.func15,Tryz.ntmps15
  go_wp2_with fail
  refine (HV.out _ _).mono ?_
  rintro e w1 ⟨rfl,rfl⟩
  go_wp2_with fail
  rw [←HW0.out]
  refine HS.out.mono ?_
  rintro e w2 ⟨⟨v,rfl,ho⟩,hb2⟩
  obtain ⟨va,vc,rfl⟩:=dW ho
  have HB2:=Lib.hid hb2
  have HO:=Lib.hid ho
  clear hb2 ho
  go_wp2_with fail
  go_ret
  exact ⟨⟨_,rfl,VS.xJ HO.out⟩,HB0.out.trans (HB2.out.mono HB0.out.size)⟩
end Go.Proofs.YtacfglopionkfaaGreatDoor
namespace Go.Proofs.YtacfglopionkfaaGreatDoor
set_option maxRecDepth 100000
open Go.RowKit Go.WideMaps Go.Maps
def ji (acc:Vl) (x:ByteArray × ByteArray):Vl:=if rF x.1=true then iw x.1 x.2 acc else acc
def dD (L:Vl):Vl:=L.foldl ji []
theorem GZ {acc:Vl} (h:acc.lS) (x:ByteArray × ByteArray):(ji acc x).lS:=by
 unfold ji
 split
 ·exact lU h
 ·exact h
theorem G5 (acc:Vl) (x:ByteArray × ByteArray):(ji acc x).length≤acc.length+1:=by
 unfold ji
 split
 ·exact uN _ _ _ _
 ·omega
theorem EG {L:Vl} {k:Nat} {p:ByteArray × ByteArray} (h:L[k]? =some p):dD (L.take (k+1))=ji (dD (L.take k)) p:=by
 have hk:=(List.getElem?_eq_some_iff.1 h)
 unfold dD
 rw [List.take_add_one,h]
 simp [List.foldl_append]
theorem yT: ∀(L:Vl),(dD L).length≤L.length:=by
 intro L
 unfold dD
 have: ∀(L acc:Vl),(L.foldl ji acc).length≤acc.length+L.length:=by
  intro L
  induction L with
  | nil=>intro acc;simp
  | cons x r ih=>intro acc;rw [List.foldl_cons];have:=ih (ji acc x);have:=G5 acc x;simp only [List.length_cons];omega
 simpa using this L []
theorem Ie (L:Vl):(dD L).lS:=by
 unfold dD
 have: ∀(L acc:Vl),acc.lS→(L.foldl ji acc).lS:=by
  intro L
  induction L with
  | nil=>intro acc h;exact h
  | cons x r ih=>intro acc h;rw [List.foldl_cons];exact ih _ (GZ h x)
 exact this L [] List.Pairwise.nil
theorem Ib {L:Vl} {x:ByteArray × ByteArray} (h:x∈dD L):x∈L∧rF x.1=true:=by
 unfold dD at h
 have: ∀(L acc:Vl),x∈L.foldl ji acc→x∈acc∨(x∈L∧rF x.1=true):=by
  intro L
  induction L with
  | nil=>intro acc h;exact Or.inl h
  | cons y r ih=>
   intro acc h
   rw [List.foldl_cons] at h
   rcases ih _ h with h | ⟨h,h2⟩
   ·unfold ji at h
    split at h
    ·rename_i hn
     rcases oO.1 h with rfl | ⟨h,_⟩
     ·exact Or.inr ⟨List.mem_cons_self,hn⟩
     ·exact Or.inl h
    ·exact Or.inl h
   ·exact Or.inr ⟨List.mem_cons_of_mem _ h,h2⟩
 rcases this L [] h with h | h
 ·cases h
 ·exact h
structure FW (w:World) (vb:Nat) (mo:Option Nat) (N:Nat) (acc am:Vl) (vm:Value) (X:World):Prop where
 va:aZ X vb mo N acc
 row:X.ownsRow w.heap.size 96 2 vm am.length (fE am)
 bel:Below w.heap.size w X
 lo:w.heap.size≤vb
 RG: ∀mb,mo=some mb→w.heap.size≤mb
theorem Gv {X X':World} {vb N B n:Nat} {mo:Option Nat} {l:Vl} {v:Value} {xs:List Value} (h:X.ownsRow B 96 2 v n xs) (hv:aZ X vb mo N l) (hb:But (VB vb mo) X X'):X'.ownsRow B 96 2 v n xs:=by
 refine ⟨h.1,?_⟩
 rcases h.2 with h0 | ⟨g,cap,cur,e1,e2,e3,r⟩
 ·exact Or.inl h0
 ·refine Or.inr ⟨g,cap,cur,e1,e2,(hb.block g (aV e3) ?_).trans e3,r⟩
  rintro (rfl | hm)
  ·have:=hv.blk
   rw [e3] at this
   simp only [Option.some.injEq,Obj.cells.injEq] at this
   exact absurd this.2.1 (by decide)
  ·obtain ⟨D,⟨es,clock,h1,_⟩,_⟩:=hv.own g hm.symm
   rw [e3] at h1
   cases h1
theorem FW.below {w:World} {vb N:Nat} {mo:Option Nat} {acc am:Vl} {vm:Value} {X X':World} (h:FW w vb mo N acc am vm X) (hb:Below X.heap.size X X'):FW w vb mo N acc am vm X':=
 ⟨h.va.below hb,bH h.row hb,h.bel.trans (hb.mono h.bel.size),h.lo,h.RG⟩
theorem EW {B vb:Nat} {mo:Option Nat} {w X X':World} (h:Below B w X) (hb:But (VB vb mo) X X') (hB:B≤X.heap.size) (hv:B≤vb) (hm: ∀mb,mo=some mb→B≤mb):Below B w X':=
 h.trans (hb.below hB (fun i hi hq=>by
  rcases hq with rfl | e
  ·omega
  ·have:=hm i e.symm;omega))
set_option maxHeartbeats 2000000 in
theorem sJ (s:ByteArray) (w:World) (hl:s.size≤maxLen):Calls Tryz.prog 18 #[.string s] w fun e w'=>e= .returned (.bool (rF s))∧Below w.heap.size w w':=EH s w (by unfold maxLen at hl;omega)
theorem KT (w:World) (vb k:Nat) (mo:Option Nat) (acc am:Vl) (vm:Value) (nm val:ByteArray) (X:World) (h:FW w vb mo k acc am vm X) (hk:k≤1000000) (hn:nm.size≤maxLen):
  Calls Tryz.prog 17 #[.pointer (some ⟨vb,0,none⟩),.string nm,.string val] X fun e w'=>e= .returned (.bool (rF nm))∧ ∃jq,FW w vb jq (k+1) (ji acc (nm,val)) am vm w':=by
 refine (set_any vb k mo acc nm val X h.va (by unfold maxLen;omega) hn).mono ?_
 rintro e w' ⟨rfl,⟨jq,hmo,hva⟩,hb⟩
 refine ⟨rfl,jq,hva,Gv h.row h.va hb,EW h.bel hb h.bel.size h.lo h.RG,h.lo,fun mb e=>?_⟩
 rcases hmo with rfl | ⟨_,b,hb',hlt⟩
 ·exact h.RG mb e
 ·rw [hb'] at e
  obtain rfl:=Option.some.inj e
  exact Nat.le_trans h.bel.size hlt
theorem H6 {W:World} {base base':Nat} {v:Value} {k:Nat} {xs:List Value} (h:W.ownsRow base 96 2 v k xs) (hb:base'≤base):W.ownsRow base' 96 2 v k xs:=by
 refine ⟨h.1,?_⟩
 rcases h.2 with h0 | ⟨g,cap,cur,e1,e2,r⟩
 ·exact Or.inl h0
 ·exact Or.inr ⟨g,cap,cur,e1,Nat.le_trans hb e2,r⟩
theorem He (w:World) (vb k:Nat) (mo:Option Nat) (acc am:Vl) (vm:Value) (nm val:ByteArray) (X:World) (h:FW w vb mo k acc am vm X) (hl:am.length≤1000000):
  Calls Tryz.prog 19 #[vm,.string nm,.string val] X fun e w'=> ∃v,e= .returned v∧FW w vb mo k acc (iw nm val am) v w':=by
 refine (Ba vm am nm val X (VS.xJ h.row) hl).mono ?_
 rintro e w' ⟨v,rfl,ho,hb⟩
 exact ⟨v,rfl,h.va.below hb,H6 ho h.bel.size,h.bel.trans (hb.mono h.bel.size),h.lo,h.RG⟩
set_option maxHeartbeats 8000000 in
theorem LQ (v:Value) (LV:Vl) (w:World) (hv:VS w v LV) (hlen:LV.length≤9223372036854775807) (hsz: ∀x∈LV,x.1.size≤maxLen):
  Calls Tryz.prog 13 #[v] w fun e w'=> ∃vb mo vm,e= .returned (.tuple #[.pointer (some ⟨vb,0,none⟩),vm])∧FW w vb mo 40 (dD (LV.take 40)) (dD (LV.take 40)) vm w':=by
 obtain ⟨ad,ac,rfl⟩: ∃ad ac,v= .slice ad LV.length ac:=by
  rcases hv with ⟨rfl,x,y,h⟩ | ⟨x,y,z,h,_⟩
  ·exact ⟨x,y,h⟩
  ·exact ⟨_,z,h⟩
 have HA:=Lib.hid hv
 have RX:=Lib.hid hsz
 obtain ⟨n,hn⟩: ∃n,n=LV.length:=⟨_,rfl⟩
 have HN:=Lib.hid hn
 rw [←hn] at hlen
 rw [←hn]
 have HNV:=Lib.hid (FP w)
 clear hv hsz hn
 go_enter Tryz.func13,Tryz.ntmps13
 go_wp2_with fail
 refine HNV.out.mono ?_
 rintro e w1 ⟨rfl,hb,hbl⟩
 have HI0:Hid (FW w w.heap.size none 0 [] [] (.slice none 0 0) w1):=Lib.hid ⟨⟨hb,List.Pairwise.nil,fun _=>rfl,fun _ e=>(by cases e)⟩,World.ownsRow_nil _ _ _ _,hbl,Nat.le_refl _,fun _ e=>(by cases e)⟩
 clear hb hbl HNV
 go_wp2_with fail
 go_loopw [5,6] (fun s5 s6 X=> ∃(k:Nat) (mo:Option Nat) (va:Option Addr) (m vc:Nat),s5= .slice va m vc∧s6= .int .i64 (k:Nat)∧k≤n∧k≤40∧FW w w.heap.size mo k (dD (LV.take k)) (dD (LV.take k)) (.slice va m vc) X) (fun _ s6 _=>40 - (intOf s6).toNat)
 case atStart=>exact ⟨0,none,none,0,0,rfl,rfl,Nat.zero_le _,Nat.zero_le _,by simpa [dD] using HI0.out⟩
 case round=>
  obtain ⟨k,mo,va,m,vc,rfl,rfl,hk,Zb,hi⟩:=hrel
  have HI:=Lib.hid hi
  clear hi HI0
  by_cases hlt:k<n
  case neg=>
   have hke:k=n:=by omega
   have WW: ¬((k:Nat):Int)<(n:Int):=by omega
   have HT:Hid (dD (LV.take k)=dD (LV.take 40)):=Lib.hid (by rw [List.take_of_length_le (by have:=HN.out;omega),List.take_of_length_le (by have:=HN.out;omega)])
   have HK:=Lib.hid Zb
   clear hke Zb
   go_wp2_with fail
   go_ret2
   exact ⟨_,mo,_,rfl,by have h:=HI.out;rw [HT.out] at h;exact ⟨h.va.more HK.out,h.row,h.bel,h.lo,h.RG⟩⟩
  by_cases hlt2:k<40
  case neg=>
   have hke:k=40:=by omega
   subst hke
   have WW:((40:Nat):Int)<(n:Int):=by omega
   go_wp2_with fail
   go_ret2
   exact ⟨_,mo,_,rfl,HI.out⟩
  have sO:k<LV.length:=by rw [←HN.out];exact hlt
  obtain ⟨⟨pn,pv⟩,hp⟩: ∃x,LV[k]? =some x:=⟨LV[k],List.getElem?_eq_getElem sO⟩
  have HTK:=Lib.hid (EG hp)
  have HPS:Hid (pn.size≤maxLen):=Lib.hid (RX.out _ (List.mem_of_getElem? hp))
  obtain ⟨g,o,cap,hsv,hg,hc⟩: ∃g o cap,(.slice ad LV.length ac:Value)= .slice (some ⟨g,o,none⟩) LV.length cap∧g<w.heap.size∧ ∀(j:Nat) (p:ByteArray × ByteArray),LV[j]? =some p→w.cell? ⟨g,o+j*2,none⟩=some (.string p.1)∧w.cell? ⟨g,o+j*2+1,none⟩=some (.string p.2):=by
   rcases HA.out with ⟨h0,_⟩ | h
   ·rw [h0] at sO;simp at sO
   ·exact h
  simp only [Value.slice.injEq] at hsv
  obtain ⟨rfl,hx1,hx2⟩:=hsv
  clear hx1 hx2
  obtain ⟨p0,p1⟩:=hc k _ hp
  dsimp only at p0 p1
  have Nu:=Lib.hid p0
  have ou:=Lib.hid p1
  have HG:=Lib.hid hg
  have WW:((k:Nat):Int)<(n:Int):=by omega
  have hkI2:((k:Nat):Int)<40:=by omega
  have hkn:((k:Nat):Int)+1≤9223372036854775807:=by omega
  have HR0:=Lib.hid (Below.refl wr.heap.size wr)
  clear hc hp p0 p1 hg
  go_wp2_with fail
  refine Reg.aJ (fun Lq _ X=>(Lq 11=false→Below wr.heap.size wr X)∧(Lq 11=true→ ∃jq,FW w w.heap.size jq (k+1) (ji (dD (LV.take k)) (pn,pv)) (dD (LV.take k)) (.slice va m vc) X)) (fun j=>([some (.pointer (some ⟨w.heap.size,0,none⟩)),some (.slice (some ⟨g,o,none⟩) n ac),some (.int .i64 (k:Nat)),some (.pointer (some ⟨g,o+k*2,none⟩)),some (.pointer (some ⟨g,o+k*2,none⟩)),some (.string pn),some (.slice (some ⟨g,o,none⟩) n ac),some (.int .i64 (k:Nat)),some (.pointer (some ⟨g,o+k*2,none⟩)),some (.pointer (some ⟨g,o+k*2+1,none⟩)),some (.string pv),some (.bool (rF pn))]:List (Option Value)).getD j none) (by kernel_rfl) (by kernel_rfl) (by kernel_rfl) (by kernel_rfl) ?iY ?rsE ?iW
  case iY=>exact ⟨fun _=>(Below.refl _ _).drew,fun h=>(by cases h)⟩
  case rsE=>
   refine Reg.au.plain rfl (fun L u T X hL hz hS hk K hK=>?_) ?_
   ·have g4:=hk.old 4 rfl
    have hK:=hK _ X hS (fun _ hx=>Option.some.inj hx)
    clear hk hz hL
    go_simp
    exact hK
   refine Reg.au.plain rfl (fun L u T X hL hz hS hk K hK=>?_) ?_
   ·have g0:=hk.old 0 rfl
    have hK:=hK _ X hS (fun _ hx=>Option.some.inj hx)
    clear hk hz hL
    go_simp
    exact hK
   refine Reg.au.plain rfl (fun L u T X hL hz hS hk K hK=>?_) ?_
   ·have g6:=hk.old 6 rfl
    have hK:=hK _ X hS (fun _ hx=>Option.some.inj hx)
    clear hk hz hL
    go_simp
    exact hK
   refine Reg.au.plain rfl (fun L u T X hL hz hS hk K hK=>?_) ?_
   ·have g19:=hk.val 1 19 rfl
    have g20:=hk.val 2 20 rfl
    have hK:=hK _ X hS (fun _ hx=>Option.some.inj hx)
    clear hk hz hL
    go_simp
    exact hK
   refine Reg.au.plain rfl (fun L u T X hL hz hS hk K hK=>?_) ?_
   ·have g21:=hk.val 3 21 rfl
    have hK:=hK _ X hS (fun _ hx=>Option.some.inj hx)
    clear hk hz hL
    go_simp
    exact hK
   refine Reg.au.plain rfl (fun L u T X hL hz hS hk K hK=>?_) ?_
   ·have g22:=hk.val 4 22 rfl
    have hP:=hS.1 (hz 11 (by kernel_rfl))
    have q:X.cell? ⟨g,o+k*2,none⟩=some (.string pn):=((HI.out.below hP).bel.cell (p:=⟨g,o+k*2,none⟩) HG.out).trans Nu.out
    have hK:=hK _ X hS (fun _ hx=>Option.some.inj hx)
    clear hk hz hL hS hP
    go_simp
    exact hK
   refine Reg.au.plain rfl (fun L u T X hL hz hS hk K hK=>?_) ?_
   ·have g0:=hk.old 0 rfl
    have hK:=hK _ X hS (fun _ hx=>Option.some.inj hx)
    clear hk hz hL
    go_simp
    exact hK
   refine Reg.au.plain rfl (fun L u T X hL hz hS hk K hK=>?_) ?_
   ·have g6:=hk.old 6 rfl
    have hK:=hK _ X hS (fun _ hx=>Option.some.inj hx)
    clear hk hz hL
    go_simp
    exact hK
   refine Reg.au.plain rfl (fun L u T X hL hz hS hk K hK=>?_) ?_
   ·have g24:=hk.val 6 24 rfl
    have g25:=hk.val 7 25 rfl
    have hK:=hK _ X hS (fun _ hx=>Option.some.inj hx)
    clear hk hz hL
    go_simp
    exact hK
   refine Reg.au.plain rfl (fun L u T X hL hz hS hk K hK=>?_) ?_
   ·have g26:=hk.val 8 26 rfl
    have hK:=hK _ X hS (fun _ hx=>Option.some.inj hx)
    clear hk hz hL
    go_simp
    exact hK
   refine Reg.au.plain rfl (fun L u T X hL hz hS hk K hK=>?_) ?_
   ·have g27:=hk.val 9 27 rfl
    have hP:=hS.1 (hz 11 (by kernel_rfl))
    have q:X.cell? ⟨g,o+k*2+1,none⟩=some (.string pv):=((HI.out.below hP).bel.cell (p:=⟨g,o+k*2+1,none⟩) HG.out).trans ou.out
    have hK:=hK _ X hS (fun _ hx=>Option.some.inj hx)
    clear hk hz hL hS hP
    go_simp
    exact hK
   refine Reg.au.plain rfl (fun L u T X hL hz hS hk K hK=>?_) ?_
   ·have g18:=hk.val 0 18 rfl
    have g23:=hk.val 5 23 rfl
    have g28:=hk.val 10 28 rfl
    have hP:=hS.1 hL
    clear hk hz
    go_simp
    refine (KT w w.heap.size k mo (dD (LV.take k)) (dD (LV.take k)) (.slice va m vc) pn pv X (HI.out.below hP) (by omega) HPS.out).mono ?_
    rintro e w' ⟨rfl,jq,h'⟩
    exact hK _ w' ⟨fun h=>(by rw [Reg.upd_same] at h;cases h),fun _=>⟨jq,h'⟩⟩ (fun _ hx=>Option.some.inj hx)
   exact Reg.au.nil
  case iW=>
   intro L u w1 hL hS hI
   have e0:=hI 0 (by decide) _ rfl
   have e1:=hI 1 (by decide) _ rfl
   have e2:=hI 2 (by decide) _ rfl
   have e3:=hI 3 (by decide) _ rfl
   have e4:=hI 4 (by decide) _ rfl
   have e5:=hI 5 (by decide) _ rfl
   have e6:=hI 6 (by decide) _ rfl
   have e7:=hI 7 (by decide) _ rfl
   have e8:=hI 8 (by decide) _ rfl
   have e9:=hI 9 (by decide) _ rfl
   have e10:=hI 10 (by decide) _ rfl
   have e11:=hI 11 (by decide) _ rfl
   clear hI
   simp only [Reg.aK,Act.put,List.setIfInBounds_toArray,List.set_cons_succ,List.set_cons_zero,Nat.zero_add,Nat.reduceAdd,e0,e1,e2,e3,e4,e5,e6,e7,e8,e9,e10,e11]
   clear e0 e1 e2 e3 e4 e5 e6 e7 e8 e9 e10 e11
   have hfin:=hS.2 (hL 11 (by decide))
   obtain ⟨jq,hi'⟩:=hfin
   have HI2:=Lib.hid hi'
   have xk:=Lib.hid (sJ pn w1 HPS.out)
   have q7:w1.cell? ⟨g,o+k*2,none⟩=some (.string pn):=(HI2.out.bel.cell (p:=⟨g,o+k*2,none⟩) HG.out).trans Nu.out
   clear hi' hS hL
   go_wp2_with fail
   clear q7
   refine xk.out.mono ?_
   rintro e w2 ⟨rfl,hb2⟩
   have HI3:=Lib.hid (HI2.out.below hb2)
   clear hb2 xk
   cases hnm:rF pn with
   | false=>
    have HST:Hid (dD (LV.take (k+1))=dD (LV.take k)):=Lib.hid (by rw [HTK.out];unfold ji;rw [if_neg (by rw [hnm];decide)])
    have TQ:Hid (ji (dD (LV.take k)) (pn,pv)=dD (LV.take k)):=Lib.hid (by unfold ji;rw [if_neg (by rw [hnm];decide)])
    go_wp2_with fail
    go_roundw
    case rel=>exact ⟨k+1,jq,va,m,vc,rfl,by go_num,by omega,by omega,by have h:=HI3.out;rw [TQ.out] at h;rw [HST.out];exact h⟩
    case measure=>simp [intOf];omega
   | true=>
    have HST:Hid (dD (LV.take (k+1))=iw pn pv (dD (LV.take k))):=Lib.hid (by rw [HTK.out];unfold ji;rw [if_pos hnm])
    have TQ:Hid (ji (dD (LV.take k)) (pn,pv)=iw pn pv (dD (LV.take k))):=Lib.hid (by unfold ji;rw [if_pos hnm])
    go_wp2_with fail
    have HI4:Hid (FW w w.heap.size jq (k+1) (iw pn pv (dD (LV.take k))) (dD (LV.take k)) (.slice va m vc) w2):=Lib.hid (by have h:=HI3.out;rw [TQ.out] at h;exact h)
    have HLN:Hid ((dD (LV.take k)).length≤1000000):=Lib.hid (by have h1:=yT (LV.take k);have h2:=List.length_take_le k LV;omega)
    refine Reg2.aJ (fun Lq u X=>(Lq 11=false→Below w2.heap.size w2 X)∧(Lq 11=true→FW w w.heap.size jq (k+1) (iw pn pv (dD (LV.take k))) (iw pn pv (dD (LV.take k))) (u 11) X)∧(Lq 12=true→u 12=u 11)) (fun j=>([some (.slice va m vc),some (.slice (some ⟨g,o,none⟩) n ac),some (.int .i64 (k:Nat)),some (.pointer (some ⟨g,o+k*2,none⟩)),some (.pointer (some ⟨g,o+k*2,none⟩)),some (.string pn),some (.slice (some ⟨g,o,none⟩) n ac),some (.int .i64 (k:Nat)),some (.pointer (some ⟨g,o+k*2,none⟩)),some (.pointer (some ⟨g,o+k*2+1,none⟩)),some (.string pv),none,none]:List (Option Value)).getD j none) (by kernel_rfl) (by kernel_rfl) (by kernel_rfl) (by kernel_rfl) ?iY ?rsE ?iW
    case iY=>exact ⟨fun _=>(Below.refl _ _).drew,fun h=>(by cases h),fun h=>(by cases h)⟩
    case rsE=>
     refine Reg2.au.plain rfl (fun L u T X hL hz hS hk K hK=>?_) ?_
     ·have g5:T[5]? =some (.slice va m vc):=hk.later 12 5 (by kernel_rfl) (hz 12 (by kernel_rfl)) rfl
      have hK:=hK _ X hS (fun _ hx=>Option.some.inj hx)
      clear hk hz hL
      go_simp
      exact hK
     refine Reg2.au.plain rfl (fun L u T X hL hz hS hk K hK=>?_) ?_
     ·have g0:=hk.old 0 rfl
      have hK:=hK _ X hS (fun _ hx=>Option.some.inj hx)
      clear hk hz hL
      go_simp
      exact hK
     refine Reg2.au.plain rfl (fun L u T X hL hz hS hk K hK=>?_) ?_
     ·have g6:=hk.old 6 rfl
      have hK:=hK _ X hS (fun _ hx=>Option.some.inj hx)
      clear hk hz hL
      go_simp
      exact hK
     refine Reg2.au.plain rfl (fun L u T X hL hz hS hk K hK=>?_) ?_
     ·have g37:=hk.val 1 37 rfl
      have g38:=hk.val 2 38 rfl
      have hK:=hK _ X hS (fun _ hx=>Option.some.inj hx)
      clear hk hz hL
      go_simp
      exact hK
     refine Reg2.au.plain rfl (fun L u T X hL hz hS hk K hK=>?_) ?_
     ·have g39:=hk.val 3 39 rfl
      have hK:=hK _ X hS (fun _ hx=>Option.some.inj hx)
      clear hk hz hL
      go_simp
      exact hK
     refine Reg2.au.plain rfl (fun L u T X hL hz hS hk K hK=>?_) ?_
     ·have g40:=hk.val 4 40 rfl
      have hP:=hS.1 (hz 11 (by kernel_rfl))
      have q:X.cell? ⟨g,o+k*2,none⟩=some (.string pn):=((HI4.out.below hP).bel.cell (p:=⟨g,o+k*2,none⟩) HG.out).trans Nu.out
      have hK:=hK _ X hS (fun _ hx=>Option.some.inj hx)
      clear hk hz hL hS hP
      go_simp
      exact hK
     refine Reg2.au.plain rfl (fun L u T X hL hz hS hk K hK=>?_) ?_
     ·have g0:=hk.old 0 rfl
      have hK:=hK _ X hS (fun _ hx=>Option.some.inj hx)
      clear hk hz hL
      go_simp
      exact hK
     refine Reg2.au.plain rfl (fun L u T X hL hz hS hk K hK=>?_) ?_
     ·have g6:=hk.old 6 rfl
      have hK:=hK _ X hS (fun _ hx=>Option.some.inj hx)
      clear hk hz hL
      go_simp
      exact hK
     refine Reg2.au.plain rfl (fun L u T X hL hz hS hk K hK=>?_) ?_
     ·have g42:=hk.val 6 42 rfl
      have g43:=hk.val 7 43 rfl
      have hK:=hK _ X hS (fun _ hx=>Option.some.inj hx)
      clear hk hz hL
      go_simp
      exact hK
     refine Reg2.au.plain rfl (fun L u T X hL hz hS hk K hK=>?_) ?_
     ·have ZW:=hk.val 8 44 rfl
      have hK:=hK _ X hS (fun _ hx=>Option.some.inj hx)
      clear hk hz hL
      go_simp
      exact hK
     refine Reg2.au.plain rfl (fun L u T X hL hz hS hk K hK=>?_) ?_
     ·have YE:=hk.val 9 45 rfl
      have hP:=hS.1 (hz 11 (by kernel_rfl))
      have q:X.cell? ⟨g,o+k*2+1,none⟩=some (.string pv):=((HI4.out.below hP).bel.cell (p:=⟨g,o+k*2+1,none⟩) HG.out).trans ou.out
      have hK:=hK _ X hS (fun _ hx=>Option.some.inj hx)
      clear hk hz hL hS hP
      go_simp
      exact hK
     refine Reg2.au.plain rfl (fun L u T X hL hz hS hk K hK=>?_) ?_
     ·have g36:=hk.val 0 36 rfl
      have g41:=hk.val 5 41 rfl
      have g46:=hk.val 10 46 rfl
      have hP:=hS.1 hL
      have h12:L 12=false:=hz 12 (by kernel_rfl)
      clear hk hz
      go_simp
      refine (He w w.heap.size (k+1) jq (iw pn pv (dD (LV.take k))) (dD (LV.take k)) (.slice va m vc) pn pv X (HI4.out.below hP) HLN.out).mono ?_
      rintro e w' ⟨v,rfl,h'⟩
      exact hK v w' ⟨fun h=>(by rw [Reg2.upd_same] at h;cases h),fun _=>(by rw [Reg2.upd_same];exact h'),fun h=>(by rw [Reg2.upd_ne _ _ (by decide),h12] at h;cases h)⟩ (fun _ hx=>(by cases hx))
     refine Reg2.au.plain rfl (fun L u T X hL hz hS hk K hK=>?_) ?_
     ·obtain ⟨g47,l47⟩:=hk.any 11 47
      have hK:=hK (u 11) X ⟨fun h=>(by rw [Reg2.upd_ne _ _ (by decide),l47] at h;cases h),fun _=>(by rw [Reg2.upd_ne _ _ (by decide)];exact hS.2.1 l47),fun _=>(by rw [Reg2.upd_same,Reg2.upd_ne _ _ (by decide)])⟩ (fun _ hx=>(by cases hx))
      clear hk hz hL hS
      go_simp
      exact hK
     exact Reg2.au.nil
    case iW=>
     intro L u w1 hL hS hI
     have e0:=hI 0 (by decide) _ rfl
     have e1:=hI 1 (by decide) _ rfl
     have e2:=hI 2 (by decide) _ rfl
     have e3:=hI 3 (by decide) _ rfl
     have e4:=hI 4 (by decide) _ rfl
     have e5:=hI 5 (by decide) _ rfl
     have e6:=hI 6 (by decide) _ rfl
     have e7:=hI 7 (by decide) _ rfl
     have e8:=hI 8 (by decide) _ rfl
     have e9:=hI 9 (by decide) _ rfl
     have e10:=hI 10 (by decide) _ rfl
     clear hI
     simp only [Reg2.aK,Act.put,List.setIfInBounds_toArray,List.set_cons_succ,List.set_cons_zero,Nat.zero_add,Nat.reduceAdd,e0,e1,e2,e3,e4,e5,e6,e7,e8,e9,e10]
     clear e0 e1 e2 e3 e4 e5 e6 e7 e8 e9 e10
     have hfin:=hS.2.1 (hL 11 (by decide))
     have Zc:=hS.2.2 (hL 12 (by decide))
     obtain ⟨va',vc',hv'⟩:=dW hfin.row
     rw [Zc,hv']
     rw [hv'] at hfin
     have HFI:=Lib.hid hfin
     clear hfin Zc hv' hS hL
     go_wp2_with fail
     go_roundw
     case rel=>exact ⟨k+1,jq,va',_,vc',rfl,by go_num,by omega,by omega,by rw [HST.out];exact HFI.out⟩
     case measure=>simp [intOf];omega
end Go.Proofs.YtacfglopionkfaaGreatDoor
namespace Go.Proofs.YtacfglopionkfaaGreatDoor
set_option maxRecDepth 100000
open Go.RowKit
theorem BR {op:ByteArray} {v x:Int} {e e':Asc} (h:ig op v e= .ok x e'):I64 x:=by
 unfold ig at h
 cases hr:kK op 0 v with
 | none=>rw [hr] at h;cases h
 | some y=>rw [hr] at h;simp only [Rv.ok.injEq] at h;rw [←h.1];exact rW hr (by unfold I64;omega)
theorem Bv {op:ByteArray} {p:Nat} {l r x:Int} {e e':Asc} (h:gq op p l r e= .ok x e') (hl:I64 l):I64 x:=by
 unfold gq at h
 split at h
 ·cases h
 ·cases hr:kK op l r with
  | none=>rw [hr] at h;cases h
  | some y=>rw [hr] at h;simp only [Rv.ok.injEq] at h;rw [←h.1];exact rW hr hl
end Go.Proofs.YtacfglopionkfaaGreatDoor
