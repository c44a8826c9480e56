import Derived.Test.YtacfglopionkfaaGreatDoorKAs
namespace Go.Proofs.YtacfglopionkfaaGreatDoor
set_option maxRecDepth 100000
open Go.RowKit
def mF (l:List Int) (n:Nat):Option Rs:=
 match rd l n .expr (tok l 0) with
 | some (.ok t t1)=>if t1.kind=0 then some (.ok t t1) else some (refuse t1)
 | r=>r
def Got (s:Nat→Addr) (lo:Nat):Rs→Ending→World→Prop
 | .ok t _,e,w'=> ∃o m,e= .returned (.agg #[.string t.op,.int .i64 t.val,.string t.nm,.int .i64 t.pos,.int .i64 t.aG,.slice o m m])∧t.In w' lo (.slice o m m)
 | .bad c p,e,w'=>Bad s c p e w'
def rdO (bv:Value) (t:Tk):Obj:= .cells #[bv,.int .i64 t.kind,.int .i64 t.start,.int .i64 t.stop,.string t.text,.int .i64 t.num,.bool t.over] 136
theorem Uf {w:World} {v:Value} {l:List Int} (h:Sl w v l):(∃a cap,v= .slice a 0 cap∧l=[])∨ ∀x o n cap,v= .slice (some ⟨x,o,none⟩) n cap→x<w.heap.size:=by
 obtain ⟨hy,hl,⟨rfl,a,cap,rfl⟩ | ⟨b,o,cap,rfl,hcl,hcm,hr⟩⟩:=h
 ·exact Or.inl ⟨a,cap,rfl,rfl⟩
 ·by_cases h0:l.length=0
  ·left;exact ⟨some ⟨b,o,none⟩,cap,by rw [h0],List.length_eq_zero_iff.1 h0⟩
  ·right
   intro x o' n cap' he
   simp only [Value.slice.injEq,Option.some.injEq,Addr.mk.injEq,and_true] at he
   obtain ⟨⟨rfl,_⟩,_,_⟩:=he
   have hc:=hr 0 (by omega)
   rcases Nat.lt_or_ge b w.heap.size with h' | h'
   ·exact h'
   ·simp [World.cell?,Array.getElem?_eq_none h'] at hc
set_option maxHeartbeats 4000000 in
theorem KZ (v:Value) (l:List Int) (n:Nat) (res:Rs) (s:Nat→Addr) (w:World) (h:mF l n=some res) (hs:Sl w v l) (he:Er w s):
  Calls Tryz.prog 39 #[v] w fun e w'=>Got s w.heap.size res e w'∧Below w.heap.size w w':=by
 obtain ⟨oa,n0,cap,rfl⟩: ∃oa n cap,v= .slice oa n cap:=by
  obtain ⟨hy,hl,⟨rfl,a,cap,rfl⟩ | ⟨b,o,cap,rfl,hcl,hcm,hr⟩⟩:=hs
  ·exact ⟨_,_,_,rfl⟩
  ·exact ⟨_,_,_,rfl⟩
 obtain ⟨t0,ht0⟩: ∃t0,tok l 0=t0:=⟨_,rfl⟩
 have HT:Hid (∀W,Below w.heap.size w W→Calls Tryz.prog 72 #[.slice oa n0 cap,.int .i64 0] W fun e w'=>e= .returned (.agg #[.int .i64 t0.kind,.int .i64 t0.start,.int .i64 t0.stop,.string t0.text,.int .i64 t0.num,.bool t0.over])∧Below W.heap.size W w'):=Lib.hid (fun W hW=>ni _ l 0 t0 ht0 W (hs.below hW) (Nat.zero_le _))
 have HB:Hid (∀o,Below w.heap.size w (w.alloc o)):=Lib.hid (fun o=>(Below.refl _ _).alloc (Nat.le_refl _) o)
 have HS:=Lib.hid hs
 have HE:=Lib.hid he
 have hlow:=he.low
 have YW:t0.stop≤l.length:=by rw [←ht0];exact bD l 0 (Nat.zero_le _)
 unfold mF at h
 rw [ht0] at h
 have HH:=Lib.hid h
 have hap: ∀x o n c,Value.slice oa n0 cap= .slice (some ⟨x,o,none⟩) n c→l=[]∨x<w.heap.size:=fun x o n c e=>by
  rcases Uf hs with ⟨a,c',e',hl⟩ | h'
  ·exact Or.inl hl
  ·exact Or.inr (h' x o n c e)
 have HAp:=Lib.hid hap
 clear hs he ht0 h hap
 go_enter Tryz.func39,Tryz.ntmps39
 go_wp2_with fail
 refine (HT.out _ (HB.out _)).mono ?_
 rintro e w1 ⟨rfl,hb1⟩
 have HB1:Hid (Below w.heap.size w w1):=Lib.hid ((HB.out _).trans (hb1.mono (by simp)))
 have HR1:Hid (w1.heap[w.heap.size]? =some dw):=Lib.hid ((hb1.block _ (by simp)).trans (heap_alloc_last w _))
 clear hb1
 go_wp2_with fail
 have hs1:=HB1.out.size
 have HY:Hid (pq l w1.heap.size (.slice oa n0 cap) s t0 (w1.alloc (rdO (.slice oa n0 cap) t0))):=Lib.hid {
  rd:=heap_alloc_last w1 _
  cx:={
   sl:=(HS.out.below HB1.out).below ((Below.refl _ _).alloc (Nat.le_refl _) _)
   ap:=fun x o n c e=>by
    rcases HAp.out x o n c e with h' | h'
    ·exact Or.inl h'
    ·right;omega
   er:=(HE.out.below HB1.out).below ((Below.refl _ _).alloc (Nat.le_refl _) _)
   hi:=by omega}
  st:=YW}
 have hR1:=lt_of_heap HR1.out
 have HR0:Hid ((w1.alloc (rdO (.slice oa n0 cap) t0)).heap[w.heap.size]? =some dw):=Lib.hid (aN HR1.out _)
 have HB2:Hid (Below w.heap.size w (w1.alloc (rdO (.slice oa n0 cap) t0))):=Lib.hid (HB1.out.alloc hs1 _)
 obtain ⟨r,hr⟩: ∃r,rd l n .expr t0=r:=⟨_,rfl⟩
 have hh:=HH.out
 rw [hr] at hh
 clear HH
 match r,hr,hh with
 | none,_,hh=>cases hh
 | some (.bad c p),hr,hh=>
  cases hh
  have HX:=Lib.hid ((J7 l w1.heap.size (.slice oa n0 cap) s n n (Nat.le_refl _)).expr t0 _ _ hr HY.out)
  clear hr
  refine HX.out.mono ?_
  rintro e w2 ⟨⟨v,rfl,he⟩,hch⟩
  exact ⟨rfl,⟨_,rfl,he⟩,HB2.out.trans (hch.1.mono hs1)⟩
 | some (.ok tr t1),hr,hh=>
  have HX:=Lib.hid ((J7 l w1.heap.size (.slice oa n0 cap) s n n (Nat.le_refl _)).expr t0 _ _ hr HY.out)
  have Q9:=Lib.hid hh
  have hst1:=iT l n _ t0 t1 tr hr YW
  clear hr hh
  refine HX.out.mono ?_
  rintro e w2 ⟨⟨ka,rfl,hin,hrd⟩,hch⟩
  obtain ⟨o,m,rfl⟩:=hin.shape
  have nY:Hid (tr.In w2 (w.heap.size+1) (.slice o m m)):=Lib.hid (hin.mono (by simp;omega) _ _)
  have Ap:=Lib.hid hrd
  have HBe:Hid (Below w.heap.size w w2):=Lib.hid (HB2.out.trans (hch.1.mono hs1))
  have HR2:Hid (w2.heap[w.heap.size]? =some dw):=Lib.hid ((hch.2 _ (lt_of_heap HR0.out) (by omega)).trans HR0.out)
  have hR2:=lt_of_heap HR2.out
  obtain ⟨⟨c0,c1,c2,c3,c4,c5,c6⟩,_,hb⟩:=hrd.facts
  have HYe:Hid (pq l w1.heap.size (.slice oa n0 cap) s t1 w2):=Lib.hid (HY.out.ch hch hrd hst1)
  clear hin hrd hch HY HX
  have HZ:Hid (∀o,(w2.alloc o).heap[w.heap.size]? =some dw):=Lib.hid (fun o=>aN HR2.out o)
  by_cases hk:t1.kind=0
  ·have hh:=Q9.out
   simp only [hk,if_true] at hh
   cases hh
   rw [hk] at c1
   clear Q9 hk
   go_wp2_with (refine aC rfl _ _ rfl rfl w.heap.size tr.op tr.val tr.nm tr.pos tr.aG _ nY.out.one rfl rfl _ (HZ.out _) rfl ?_)
   exact bodyPost_ret (aI rfl _ _ w.heap.size _ rfl (setRow_self (HZ.out _) _) rfl) rfl ⟨⟨_,_,rfl,((nY.out.kept (fun k _ hk=>aB _ _ k hk) tr _).setRow (by omega) _).mono (by omega) _ _⟩,below_setRow (HBe.out.alloc (by omega) _) (Nat.le_refl _) _⟩
  ·have hh:=Q9.out
   simp only [hk,if_false] at hh
   cases hh
   have e1:(t1.kind==0)=false:=by simpa using hk
   have e2:(t1.kind !=0)=true:=by simpa using hk
   have HN:Hid (∀o,Calls Tryz.prog 74 #[.pointer (some ⟨w1.heap.size,0,none⟩)] (w2.alloc o) fun e w'=>Bad s t1.code t1.start e w'∧Below (w2.alloc o).heap.size (w2.alloc o) w'):=Lib.hid (fun o=>nC w1.heap.size _ t1 s _ (Ap.out.alloc o) (HYe.out.cx.er.below ((Below.refl _ _).alloc (Nat.le_refl _) _)))
   clear Q9 hk
   go_wp2_with fail
   refine (HN.out _).mono ?_
   rintro e w3 ⟨⟨v,rfl,he⟩,hb3⟩
   exact ⟨rfl,⟨_,rfl,he⟩,(HBe.out.alloc (by omega) _).trans (hb3.mono (by simp;omega))⟩
end Go.Proofs.YtacfglopionkfaaGreatDoor
namespace Go.Proofs.YtacfglopionkfaaGreatDoor
set_option maxRecDepth 100000
open Go.RowKit Go.Extern.Stop Go.Stop Go.Extern
theorem Uh (w:World):(Instr.typeAssert .nilIface 20 25 true).run Tryz.prog w= .ok (.tuple #[.nilIface,.bool false]) w:=by kernel_rfl
theorem Ui (v:Value) (w:World):(Instr.typeAssert (.iface 89 v) 20 25 true).run Tryz.prog w= .ok (.tuple #[.iface 89 v,.bool true]) w:=run_typeAssert_hasB Tryz.underlying25 (by kernel_rfl) v _ w
set_option maxHeartbeats 2000000 in
theorem Io (p q:Addr) (w:World):
  CallsD Tryz.prog 38 #[.pointer (some p),.pointer (some q)] .returning w fun e u' w'=>e= .returned (.tuple #[])∧u'= .returning∧w'=w:=by
 refine callsD_of_wpS Tryz.func38 rfl fun c₀ cs hu=>?_
 apply wpS_seq
 apply wpS_region
 simp [wpOpsS,go_sem,recoverD,hu,Tryz.ntmps38,Exit.thenS,Uh]
 apply wpS_seq
 apply wpS_region
 simp [wpOpsS,go_sem,Exit.thenS,Act.eval,Array.replicate]
 refine wpS_cond (t:=false) (by simp [Act.eval]) ?_
 simp only [Bool.false_eq_true,if_false]
 refine wpS_of_wp (wp_skip ?_)
 cases c₀
 simp_all [bodyPostS,results,Tryz.results38]
set_option maxHeartbeats 2000000 in
theorem EO (p q:Nat) (pv:Value) (older:List PanicEntry) (w:World) (hp:w.heap[p]? =some (.cells #[.pointer none] 23)) (hq:w.heap[q]? =some (.cells #[.nilIface] 25)) (hpq:p≠q):
  CallsD Tryz.prog 38 #[.pointer (some ⟨p,0,none⟩),.pointer (some ⟨q,0,none⟩)] (.panicking ({v:= .iface 89 pv,recovered:=false}::older)) w fun e u' w'=>
   e= .returned (.tuple #[])∧u'= .panicking ({v:= .iface 89 pv,recovered:=true}::older)∧w'=(w.setCell ⟨p,0,none⟩ (.pointer none)).setCell ⟨q,0,none⟩ (.iface 89 pv):=by
 refine callsD_of_wpS Tryz.func38 rfl fun c₀ cs hu=>?_
 apply wpS_seq
 apply wpS_region
 simp [wpOpsS,go_sem,recoverD,hu,Tryz.ntmps38,Exit.thenS,Ui]
 apply wpS_seq
 apply wpS_region
 simp [wpOpsS,go_sem,Exit.thenS,Act.eval,Array.replicate]
 refine wpS_cond (t:=true) (by simp [Act.eval]) ?_
 simp only [if_true]
 have cp:w.cell? ⟨p,0,none⟩=some (.pointer none):=by simp [World.cell?,hp]
 have fp:w.frozen? ⟨p,0,none⟩=false:=by simp [World.frozen?,hp]
 have cq:w.cell? ⟨q,0,none⟩=some .nilIface:=by simp [World.cell?,hq]
 have fq:w.frozen? ⟨q,0,none⟩=false:=by simp [World.frozen?,hq]
 have cq':(w.setCell ⟨p,0,none⟩ (.pointer none)).cell? ⟨q,0,none⟩=some .nilIface:=by
  rw [World.cell?_of_block (w:=w) (Below.heap_setCell _ _ _ _ (fun h=>hpq h.symm))]
  exact cq
 have fq':(w.setCell ⟨p,0,none⟩ (.pointer none)).frozen? ⟨q,0,none⟩=false:=by simp [World.frozen?_setCell,fq]
 apply wpS_region
 simp [wpOpsS,go_sem,cp,fp,cq',fq',bodyPostS,results,Tryz.results38]
def Told (s:Nat→Addr) (lo:Nat):Rs→Ending→World→Prop
 | .ok t _,e,w'=> ∃E o m,e= .returned (.tuple #[.pointer (some ⟨E,0,none⟩),.nilIface])∧lo≤E∧w'.heap[E]? =some (.cells #[.string t.op,.int .i64 t.val,.string t.nm,.int .i64 t.pos,.int .i64 t.aG,.slice o m m] 77)∧t.In w' lo (.slice o m m)
 | .bad c p,e,w'=> ∃v,e= .returned (.tuple #[.pointer none,.iface 89 v])∧ErrAt w' s c p (.iface 89 v)
def cZ (l:List Int) (n:Nat):Option Rs:=if 1024<l.length then some (.bad 2 0) else mF l n
theorem kJ.rZ {w:World} {l:List (Bool × Int)} {v r:Value} (h:kJ w l v r) {g:Nat} {x:Value} {t:TypeId} {z:Nat × Nat} (hg:w.heap[g]? =some (.cells #[x] t z)) (o:Nat) (y:Value):kJ (w.setCell ⟨g,o,none⟩ y) l v r:=by
 induction l generalizing v with
 | nil=>exact h
 | cons p l ih=>
  obtain ⟨b,n⟩:=p
  obtain ⟨k,x',e,hk,hc⟩:=h
  refine ⟨k,x',e,?_,ih hc⟩
  by_cases hkg:k=g
  ·subst hkg;rw [hg] at hk;cases b<;>cases hk
  ·rw [Below.heap_setCell _ _ _ _ hkg];exact hk
set_option maxHeartbeats 4000000 in
theorem parse_any (v:Value) (l:List Int) (n:Nat) (res:Rs) (s:Nat→Addr) (w:World) (h:cZ l n=some res) (hs:Sl w v l) (he:Er w s):
  Calls Tryz.prog 9 #[v] w fun e w'=>Told s w.heap.size res e w'∧Below w.heap.size w w':=by
 have hmf: ∀(fn:Fn) (first cap:Array Value) (w:World),(Instr.makeFunc fn first cap).run Tryz.prog w= .ok (.func fn first cap) w:=fun _ _ _ _=>rfl
 obtain ⟨oa,n0,cap,rfl,hn0⟩: ∃oa n cap,v= .slice oa n cap∧n=l.length:=by
  obtain ⟨hy,hl,⟨rfl,a,cap,rfl⟩ | ⟨b,o,cap,rfl,hcl,hcm,hr⟩⟩:=hs
  ·exact ⟨_,_,_,rfl,rfl⟩
  ·exact ⟨_,_,_,rfl,rfl⟩
 have hlen:=hs.2.1
 rw [←hn0] at hlen
 obtain ⟨W,hW⟩: ∃W:World,W=(w.alloc (.cells #[.pointer none] 23)).alloc (.cells #[.nilIface] 25):=⟨_,rfl⟩
 have HB:Hid (Below w.heap.size w W):=Lib.hid (by rw [hW];exact ((Below.refl _ _).alloc (Nat.le_refl _) _).alloc (by simp) _)
 have HP:Hid (W.heap[w.heap.size]? =some (.cells #[.pointer none] 23)):=Lib.hid (by rw [hW];exact aN (heap_alloc_last w _) _)
 have HQ:Hid (W.heap[w.heap.size+1]? =some (.cells #[.nilIface] 25)):=Lib.hid (by rw [hW];have:=heap_alloc_last (w.alloc (.cells #[.pointer none] 23)) (.cells #[.nilIface] 25);simpa using this)
 have hsz:W.heap.size=w.heap.size+2:=by rw [hW];simp
 unfold cZ at h
 by_cases hbig:1024<l.length
 ·rw [if_pos hbig] at h
  cases h
  have hbi:(1024:Int)<n0:=by omega
  have HN:=Lib.hid (lI s W (he.below HB.out) 2 0 (by omega))
  rw [hW] at HN
  clear hs he hn0 hbig
  go_enter_defers Tryz.func9,Tryz.ntmps9
  go_wp2_with fail
  refine HN.out.mono ?_
  rintro e w1 ⟨⟨rfl,herr⟩,hb1⟩
  rw [←hW] at hb1 herr
  have Df:Hid (w1.heap[w.heap.size]? =some (.cells #[.pointer none] 23)):=Lib.hid ((hb1.block _ (by omega)).trans HP.out)
  have rH:Hid (w1.heap[w.heap.size+1]? =some (.cells #[.nilIface] 25)):=Lib.hid ((hb1.block _ (by omega)).trans HQ.out)
  have HB1:Hid (Below w.heap.size w w1):=Lib.hid (HB.out.trans (hb1.mono HB.out.size))
  have HE:=Lib.hid herr
  have Sr:=lt_of_heap rH.out
  have h0s:=lt_of_heap Df.out
  have cP:w1.cell? ⟨w.heap.size,0,none⟩=some (.pointer none):=by simp [World.cell?,Df.out]
  have cQ:w1.cell? ⟨w.heap.size+1,0,none⟩=some .nilIface:=by simp [World.cell?,rH.out]
  have fP:w1.frozen? ⟨w.heap.size,0,none⟩=false:=by simp [World.frozen?,Df.out]
  have fQ:w1.frozen? ⟨w.heap.size+1,0,none⟩=false:=by simp [World.frozen?,rH.out]
  clear hb1 herr hW HN
  go_wp2_with fail
  obtain ⟨pv,hpv⟩: ∃pv:Value,pv= .pointer (some ⟨w.heap.size+1+1+1,0,none⟩):=⟨_,rfl⟩
  have HE2:ErrAt w1 s 2 0 (.iface 89 pv):=by
   have:=HE.out
   rw [hsz] at this
   rw [hpv]
   exact this
  rw [←hpv]
  clear hpv
  have hP2:=(Below.heap_setCell (w1.setCell ⟨w.heap.size,0,none⟩ (.pointer none)) ⟨w.heap.size+1,0,none⟩ (.iface 89 pv) w.heap.size (by simp)).trans (aU Df.out 0 (.pointer none))
  have hQ2:=aU ((Below.heap_setCell w1 ⟨w.heap.size,0,none⟩ (.pointer none) (w.heap.size+1) (by simp)).trans rH.out) 0 (.iface 89 pv)
  have herr:ErrAt ((w1.setCell ⟨w.heap.size,0,none⟩ (.pointer none)).setCell ⟨w.heap.size+1,0,none⟩ (.iface 89 pv)) s 2 0 (.iface 89 pv):=kJ.rZ (kJ.rZ HE2 Df.out _ _) ((Below.heap_setCell w1 ⟨w.heap.size,0,none⟩ (.pointer none) (w.heap.size+1) (by simp)).trans rH.out) _ _
  have hbw:Below w.heap.size w ((w1.setCell ⟨w.heap.size,0,none⟩ (.pointer none)).setCell ⟨w.heap.size+1,0,none⟩ (.iface 89 pv)):=(HB1.out.setCell (p:=⟨w.heap.size,0,none⟩) (Nat.le_refl _) _).setCell (p:=⟨w.heap.size+1,0,none⟩) (by simp) _
  generalize (w1.setCell ⟨w.heap.size,0,none⟩ (.pointer none)).setCell ⟨w.heap.size+1,0,none⟩ (.iface 89 pv)=V at*
  have dP:V.cell? ⟨w.heap.size,0,none⟩=some (.pointer none):=by simp [World.cell?,hP2]
  have dQ:V.cell? ⟨w.heap.size+1,0,none⟩=some (.iface 89 pv):=by simp [World.cell?,hQ2]
  refine ⟨.tuple #[.pointer none,.iface 89 pv],?_,⟨pv,rfl,herr⟩,hbw⟩
  simp [results,Tryz.results9,go_sem,dP,dQ]
 ·rw [if_neg hbig] at h
  have hbi: ¬(1024:Int)<n0:=by omega
  have HR:=Lib.hid (KZ _ l n res s W h (hs.below HB.out) (he.below HB.out))
  rw [hW] at HR
  clear hs he hn0 hbig h
  cases res with
  | bad c p=>
   go_enter_defers Tryz.func9,Tryz.ntmps9
   go_wp2_with fail
   refine HR.out.mono ?_
   rintro e w1 ⟨⟨pv,rfl,herr⟩,hb1⟩
   rw [←hW] at hb1
   have Df:Hid (w1.heap[w.heap.size]? =some (.cells #[.pointer none] 23)):=Lib.hid ((hb1.block _ (by omega)).trans HP.out)
   have rH:Hid (w1.heap[w.heap.size+1]? =some (.cells #[.nilIface] 25)):=Lib.hid ((hb1.block _ (by omega)).trans HQ.out)
   have HB1:Hid (Below w.heap.size w w1):=Lib.hid (HB.out.trans (hb1.mono HB.out.size))
   have HE:=Lib.hid herr
   clear hb1 herr hW HR
   refine leaves_cons (f:=38) (args:= #[.pointer (some ⟨w.heap.size,0,none⟩),.pointer (some ⟨w.heap.size+1,0,none⟩)]) (by simp) (by simp [go_sem]) ?_
   refine (EO w.heap.size (w.heap.size+1) pv [] w1 Df.out rH.out (by omega)).mono ?_
   rintro e u' w2 ⟨rfl,rfl,rfl⟩
   have hP2:=(Below.heap_setCell (w1.setCell ⟨w.heap.size,0,none⟩ (.pointer none)) ⟨w.heap.size+1,0,none⟩ (.iface 89 pv) w.heap.size (by simp)).trans (aU Df.out 0 (.pointer none))
   have hQ2:=aU ((Below.heap_setCell w1 ⟨w.heap.size,0,none⟩ (.pointer none) (w.heap.size+1) (by simp)).trans rH.out) 0 (.iface 89 pv)
   have herr:ErrAt ((w1.setCell ⟨w.heap.size,0,none⟩ (.pointer none)).setCell ⟨w.heap.size+1,0,none⟩ (.iface 89 pv)) s c p (.iface 89 pv):=kJ.rZ (kJ.rZ HE.out Df.out _ _) ((Below.heap_setCell w1 ⟨w.heap.size,0,none⟩ (.pointer none) (w.heap.size+1) (by simp)).trans rH.out) _ _
   have hbw:Below w.heap.size w ((w1.setCell ⟨w.heap.size,0,none⟩ (.pointer none)).setCell ⟨w.heap.size+1,0,none⟩ (.iface 89 pv)):=(HB1.out.setCell (p:=⟨w.heap.size,0,none⟩) (Nat.le_refl _) _).setCell (p:=⟨w.heap.size+1,0,none⟩) (by simp) _
   generalize (w1.setCell ⟨w.heap.size,0,none⟩ (.pointer none)).setCell ⟨w.heap.size+1,0,none⟩ (.iface 89 pv)=V at*
   have cP:V.cell? ⟨w.heap.size,0,none⟩=some (.pointer none):=by simp [World.cell?,hP2]
   have cQ:V.cell? ⟨w.heap.size+1,0,none⟩=some (.iface 89 pv):=by simp [World.cell?,hQ2]
   refine ⟨.tuple #[.pointer none,.iface 89 pv],?_,⟨pv,rfl,herr⟩,hbw⟩
   simp [results,Tryz.results9,go_sem,cP,cQ]
  | ok tr t1=>
   go_enter_defers Tryz.func9,Tryz.ntmps9
   go_wp2_with fail
   refine HR.out.mono ?_
   rintro e w1 ⟨⟨o,m,rfl,hin⟩,hb1⟩
   rw [←hW] at hb1 hin
   have Df:Hid (w1.heap[w.heap.size]? =some (.cells #[.pointer none] 23)):=Lib.hid ((hb1.block _ (by omega)).trans HP.out)
   have rH:Hid (w1.heap[w.heap.size+1]? =some (.cells #[.nilIface] 25)):=Lib.hid ((hb1.block _ (by omega)).trans HQ.out)
   have HB1:Hid (Below w.heap.size w w1):=Lib.hid (HB.out.trans (hb1.mono HB.out.size))
   have nY:=Lib.hid hin
   have Sr:=lt_of_heap rH.out
   have h0s:=lt_of_heap Df.out
   have cP:w1.cell? ⟨w.heap.size,0,none⟩=some (.pointer none):=by simp [World.cell?,Df.out]
   have cQ:w1.cell? ⟨w.heap.size+1,0,none⟩=some .nilIface:=by simp [World.cell?,rH.out]
   have fP:w1.frozen? ⟨w.heap.size,0,none⟩=false:=by simp [World.frozen?,Df.out]
   have fQ:w1.frozen? ⟨w.heap.size+1,0,none⟩=false:=by simp [World.frozen?,rH.out]
   clear hb1 hin hW HR
   go_wp2_with fail
   refine leaves_cons (f:=38) (args:= #[.pointer (some ⟨w.heap.size,0,none⟩),.pointer (some ⟨w.heap.size+1,0,none⟩)]) (by simp) (by simp [go_sem]) ?_
   refine (Io ⟨w.heap.size,0,none⟩ ⟨w.heap.size+1,0,none⟩ _).mono ?_
   rintro e u' w2 ⟨rfl,rfl,rfl⟩
   obtain ⟨X,hX⟩: ∃X:World,X=(w1.setCell ⟨w.heap.size,0,none⟩ (.pointer (some ⟨w1.heap.size,0,none⟩))).setCell ⟨w.heap.size+1,0,none⟩ .nilIface:=⟨_,rfl⟩
   rw [←hX]
   have hXs:X.heap.size=w1.heap.size:=by rw [hX];simp
   have hXP:X.heap[w.heap.size]? =some (.cells #[.pointer (some ⟨w1.heap.size,0,none⟩)] 23):=by
    rw [hX];exact (Below.heap_setCell _ ⟨w.heap.size+1,0,none⟩ _ w.heap.size (by simp)).trans (aU Df.out 0 _)
   have hXQ:X.heap[w.heap.size+1]? =some (.cells #[.nilIface] 25):=by
    rw [hX];exact aU ((Below.heap_setCell w1 ⟨w.heap.size,0,none⟩ _ (w.heap.size+1) (by simp)).trans rH.out) 0 .nilIface
   have hXo: ∀k,w.heap.size+2≤k→X.heap[k]? =w1.heap[k]? :=fun k hk=>by
    rw [hX];exact (Below.heap_setCell _ ⟨w.heap.size+1,0,none⟩ _ k (by simp;omega)).trans (Below.heap_setCell _ ⟨w.heap.size,0,none⟩ _ k (by simp;omega))
   have hXB:Below w.heap.size w X:=by rw [hX];exact (HB1.out.setCell (p:=⟨w.heap.size,0,none⟩) (Nat.le_refl _) _).setCell (p:=⟨w.heap.size+1,0,none⟩) (by simp) _
   clear hX
   have hVP:=aN hXP (.cells #[.string tr.op,.int .i64 tr.val,.string tr.nm,.int .i64 tr.pos,.int .i64 tr.aG,.slice o m m] 77)
   have hVQ:=aN hXQ (.cells #[.string tr.op,.int .i64 tr.val,.string tr.nm,.int .i64 tr.pos,.int .i64 tr.aG,.slice o m m] 77)
   have hVE:=heap_alloc_last X (.cells #[.string tr.op,.int .i64 tr.val,.string tr.nm,.int .i64 tr.pos,.int .i64 tr.aG,.slice o m m] 77)
   rw [hXs] at hVE
   have hVI:=nY.out.kept (w':=X.alloc (.cells #[.string tr.op,.int .i64 tr.val,.string tr.nm,.int .i64 tr.pos,.int .i64 tr.aG,.slice o m m] 77)) (fun k hk hs=>(aB _ _ k (by omega)).trans (hXo k (by omega))) tr _
   have hVB:=hXB.alloc hXB.size (.cells #[.string tr.op,.int .i64 tr.val,.string tr.nm,.int .i64 tr.pos,.int .i64 tr.aG,.slice o m m] 77)
   generalize X.alloc (.cells #[.string tr.op,.int .i64 tr.val,.string tr.nm,.int .i64 tr.pos,.int .i64 tr.aG,.slice o m m] 77)=V at*
   have dP:V.cell? ⟨w.heap.size,0,none⟩=some (.pointer (some ⟨w1.heap.size,0,none⟩)):=by simp [World.cell?,hVP]
   have dQ:V.cell? ⟨w.heap.size+1,0,none⟩=some .nilIface:=by simp [World.cell?,hVQ]
   refine ⟨.tuple #[.pointer (some ⟨w1.heap.size,0,none⟩),.nilIface],?_,⟨w1.heap.size,o,m,rfl,by omega,hVE,hVI.mono (by omega) _ _⟩,hVB⟩
   simp [results,Tryz.results9,go_sem,dP,dQ]
end Go.Proofs.YtacfglopionkfaaGreatDoor
namespace Go.Proofs.YtacfglopionkfaaGreatDoor
set_option maxRecDepth 100000
structure Tk.Ok (l:List Int) (t:Tk):Prop where
 run:t.kind=2∨t.kind=3∨t.kind=4→t.start<t.stop∧t.stop≤l.length
 txt: ¬t.text=ak→t.kind=3∨t.kind=4
def mu (l:List Int) (t:Tk):Nat:=l.length - t.start
theorem size_pos {s:ByteArray} (h: ¬s=ak):0<s.size:=by
 rcases Nat.eq_zero_or_pos s.size with e | e
 ·exact absurd (by obtain ⟨d⟩:=s;exact congrArg ByteArray.mk (Array.eq_empty_of_size_eq_zero e)) h
 ·exact e
theorem sU (r:List Int) (q:Nat):(gY r q).start=q:=by
 unfold gY
 repeat' split
 all_goals rfl
theorem wC (l:List Int) (p:Nat):p≤ay l p:=Nat.le_add_right _ _
theorem yL (l:List Int) (p:Nat):p≤(tok l p).start:=by unfold tok;rw [sU];exact wC l p
theorem jS (l:List Int) (p:Nat):(tok l p).Ok l:=by
 unfold tok
 generalize ay l p=q
 have hl:(l.drop q).length=l.length - q:=List.length_drop
 generalize hr:l.drop q=r at hl⊢
 by_cases h0:r.length=0
 ·have e:gY r q=⟨0,q,q,ak,0,false⟩:=by unfold gY;rw [if_pos h0]
  rw [e]
  exact ⟨by intro h;simp at h,by intro h;exact absurd rfl h⟩
 have h0:0<r.length:=by omega
 by_cases h1:0<fC r
 ·rw [zo h0 h1]
  have:=rE r
  exact ⟨fun _=>⟨by show q<q+fC r;omega,by show q+fC r≤_;omega⟩,fun _=>Or.inl rfl⟩
 by_cases h2:0<cN r
 ·rw [Au h0 h1 h2]
  have:=vg r
  exact ⟨fun _=>⟨by show q<q+cN r;omega,by show q+cN r≤_;omega⟩,fun h=>absurd rfl h⟩
 by_cases h3:mG r=ak
 ·rw [Ar h0 h1 h2 h3]
  exact ⟨by intro h;simp at h,by intro h;exact absurd rfl h⟩
 ·rw [yF h0 h1 h2 h3]
  have:=zq r
  have:=size_pos h3
  exact ⟨fun _=>⟨by show q<q+(mG r).size;omega,by show q+(mG r).size≤_;omega⟩,fun _=>Or.inr rfl⟩
theorem Bq {l:List Int} {t:Tk} (h:t.Ok l) (hk:t.kind=2∨t.kind=3∨t.kind=4):mu l (tok l t.stop)+1≤mu l t:=by
 obtain ⟨a,b⟩:=h.run hk
 have:=yL l t.stop
 unfold mu
 omega
theorem qI {l:List Int} {t:Tk} (h:t.Ok l) (hk: ¬t.text=ak):mu l (tok l t.stop)+1≤mu l t:=
 Bq h (Or.inr (h.txt hk))
theorem zG {s:ByteArray} (h: ¬jo s=ak): ¬s=ak:=by rintro rfl;exact h (by decide)
theorem oK {s:ByteArray} {k:Nat} (hk:1≤k) (h:k≤dO s): ¬s=ak:=by
 rintro rfl
 have:dO ak=0:=by decide
 omega
theorem og {s:ByteArray} (h:fZ s=true): ¬s=ak:=by rintro rfl;exact absurd h (by decide)
def Md.Ok:Md→Prop
 | .bin k=>1≤k
 | .loop k _=>1≤k
 | _=>True
def Md.need:Md→Nat
 | .expr=>4
 | .cond=>3
 | .bin _=>2
 | .loop _ _=>6
 | .iR=>1
def Md.eats:Md→Nat
 | .loop _ _=>0
 | _=>1
def Fine (l:List Int) (k:Nat) (t:Tk) (r:Option Rs):Prop:= ∃x,r=some x∧ ∀e t',x= .ok e t'→t'.Ok l∧mu l t'+k≤mu l t
theorem Fine.bad {l:List Int} {k:Nat} {t:Tk} {c p:Nat}:Fine l k t (some (.bad c p)):=⟨_,rfl,fun _ _ h=>nomatch h⟩
theorem Fine.refuse {l:List Int} {k:Nat} {t u:Tk}:Fine l k t (some (refuse u)):=Fine.bad
theorem Fine.ok {l:List Int} {k:Nat} {t t':Tk} {e:Tr} (h:t'.Ok l) (hm:mu l t'+k≤mu l t):Fine l k t (some (.ok e t')):=
 ⟨_,rfl,fun _ _ h'=>by cases h';exact ⟨h,hm⟩⟩
theorem Fine.mono {l:List Int} {k j:Nat} {t u:Tk} {r:Option Rs} (h:Fine l k t r) (hm:mu l t+j≤mu l u+k):Fine l j u r:=by
 obtain ⟨x,hx,hf⟩:=h
 refine ⟨x,hx,fun e t' he=>?_⟩
 obtain ⟨a,b⟩:=hf e t' he
 exact ⟨a,by omega⟩
theorem iV (l:List Int): ∀(n:Nat) (md:Md) (t:Tk),t.Ok l→md.Ok→5*mu l t+md.need≤n→Fine l md.eats t (rd l n md t)
 | 0,md,t,_,_,h=>by cases md<;>simp [Md.need] at h
 | n+1,.expr,t,ht,_,h=>by
  simp only [Md.need] at h
  simp only [rd,Md.eats]
  by_cases c:t.kind=3∧fZ (tok l t.stop).text=true
  ·rw [if_pos c]
   have m1:=Bq ht (Or.inr (Or.inl c.1))
   have o1:=jS l t.stop
   have m2:=qI o1 (og c.2)
   obtain ⟨x,hx,hf⟩:=iV l n .expr (tok l (tok l t.stop).stop) (jS _ _) trivial (by simp only [Md.need];omega)
   rw [hx]
   cases x with
   | bad=>exact Fine.bad
   | ok e t'=>
    obtain ⟨a,b⟩:=hf e t' rfl
    simp only [Md.eats] at b
    exact Fine.ok a (by omega)
  ·rw [if_neg c]
   exact iV l n .cond t ht trivial (by simp only [Md.need];omega)
 | n + 1,.cond,t,ht,_,h=>by
  simp only [Md.need] at h
  simp only [rd,Md.eats]
  obtain ⟨x,hx,hf⟩:=iV l n (.bin 1) t ht (Nat.le_refl 1) (by simp only [Md.need];omega)
  rw [hx]
  cases x with
  | bad=>exact Fine.bad
  | ok a t1=>
   obtain ⟨o1,m1⟩:=hf a t1 rfl
   simp only [Md.eats] at m1
   by_cases c:t1.text=iE
   ·simp only [if_pos c]
    have s1:=qI o1 (by rw [c];decide)
    obtain ⟨y,hy,hg⟩:=iV l n .expr (tok l t1.stop) (jS _ _) trivial (by simp only [Md.need];omega)
    rw [hy]
    cases y with
    | bad=>exact Fine.bad
    | ok y t2=>
     obtain ⟨o2,m2⟩:=hg y t2 rfl
     simp only [Md.eats] at m2
     by_cases d:t2.text=o8
     ·simp only [if_pos d]
      have s2:=qI o2 (by rw [d];decide)
      obtain ⟨z,hz,hh⟩:=iV l n .cond (tok l t2.stop) (jS _ _) trivial (by simp only [Md.need];omega)
      rw [hz]
      cases z with
      | bad=>exact Fine.bad
      | ok z t3=>
       obtain ⟨o3,m3⟩:=hh z t3 rfl
       simp only [Md.eats] at m3
       exact Fine.ok o3 (by omega)
     ·simp only [if_neg d]
      exact Fine.refuse
   ·simp only [if_neg c]
    exact Fine.ok o1 m1
 | n+1,.bin k,t,ht,hk,h=>by
  simp only [Md.need] at h
  simp only [rd,Md.eats]
  obtain ⟨x,hx,hf⟩:=iV l n .iR t ht trivial (by simp only [Md.need];omega)
  rw [hx]
  cases x with
  | bad=>exact Fine.bad
  | ok a t1=>
   obtain ⟨o1,m1⟩:=hf a t1 rfl
   simp only [Md.eats] at m1
   exact (iV l n (.loop k a) t1 o1 hk (by simp only [Md.need];omega)).mono (by simp only [Md.eats];omega)
 | n+1,.loop k left,t,ht,hk,h=>by
  simp only [Md.need] at h
  simp only [rd,Md.eats]
  by_cases c:k≤dO t.text
  ·rw [if_pos c]
   have s1:=qI ht (oK hk c)
   obtain ⟨x,hx,hf⟩:=iV l n (.bin (dO t.text+1)) (tok l t.stop) (jS _ _) (Nat.le_add_left 1 _) (by simp only [Md.need];omega)
   rw [hx]
   cases x with
   | bad=>exact Fine.bad
   | ok b t2=>
    obtain ⟨o2,m2⟩:=hf b t2 rfl
    simp only [Md.eats] at m2
    exact (iV l n (.loop k (.bin t.text t.start left b)) t2 o2 hk (by simp only [Md.need];omega)).mono (by simp only [Md.eats];omega)
  ·rw [if_neg c]
   exact Fine.ok ht (by omega)
 | n +1,.iR,t,ht,_,h=>by
  simp only [Md.need] at h
  simp only [rd,Md.eats]
  by_cases c2:t.kind=2
  ·rw [if_pos c2]
   have s1:=Bq ht (Or.inl c2)
   by_cases co:t.over=true
   ·rw [if_pos co];exact Fine.refuse
   ·rw [if_neg co]
    by_cases cg:gG l t.stop=true
    ·rw [if_pos cg];exact Fine.bad
    ·rw [if_neg cg];exact Fine.ok (jS _ _) s1
  rw [if_neg c2]
  by_cases c3:t.kind=3
  ·rw [if_pos c3]
   exact Fine.ok (jS _ _) (Bq ht (Or.inr (Or.inl c3)))
  rw [if_neg c3]
  by_cases cu: ¬jo t.text=ak
  ·rw [if_pos cu]
   have s1:=qI ht (zG cu)
   obtain ⟨x,hx,hf⟩:=iV l n .iR (tok l t.stop) (jS _ _) trivial (by simp only [Md.need];omega)
   rw [hx]
   cases x with
   | bad=>exact Fine.bad
   | ok a t1=>
    obtain ⟨o1,m1⟩:=hf a t1 rfl
    simp only [Md.eats] at m1
    exact Fine.ok o1 (by omega)
  rw [if_neg cu]
  by_cases cp:t.text=jy
  ·rw [if_pos cp]
   have s1:=qI ht (by rw [cp];decide)
   obtain ⟨x,hx,hf⟩:=iV l n .expr (tok l t.stop) (jS _ _) trivial (by simp only [Md.need];omega)
   rw [hx]
   cases x with
   | bad=>exact Fine.bad
   | ok e t1=>
    obtain ⟨o1,m1⟩:=hf e t1 rfl
    simp only [Md.eats] at m1
    by_cases cs:t1.text=jw
    ·simp only [if_pos cs]
     have s2:=qI o1 (by rw [cs];decide)
     exact Fine.ok (jS _ _) (by omega)
    ·simp only [if_neg cs]
     exact Fine.refuse
  ·rw [if_neg cp]
   exact Fine.refuse
theorem Es (l:List Int) (n:Nat) (h:5*l.length+4≤n): ∃r,mF l n=some r:=by
 have hm:mu l (tok l 0)≤l.length:=Nat.sub_le _ _
 obtain ⟨x,hx,-⟩:=iV l n .expr (tok l 0) (jS l 0) trivial (by simp only [Md.need];omega)
 unfold mF
 rw [hx]
 cases x with
 | bad c p=>exact ⟨_,rfl⟩
 | ok e t=>
  by_cases c:t.kind=0
  ·exact ⟨_,if_pos c⟩
  ·exact ⟨_,if_neg c⟩
theorem CS (l:List Int): ∃r,cZ l (5*l.length+4)=some r:=by
 unfold cZ
 by_cases c:1024<l.length
 ·exact ⟨_,if_pos c⟩
 ·rw [if_neg c];exact Es l _ (Nat.le_refl _)
end Go.Proofs.YtacfglopionkfaaGreatDoor
namespace Go.Proofs.YtacfglopionkfaaGreatDoor
set_option maxRecDepth 100000
open Go.RowKit
theorem oU (r y:List Int) (j:Nat) (h:j<r.length):(r++y).getD j 0=r.getD j 0:=by simp [List.getD,List.getElem?_append_left h]
def dL (n:Nat):List Int:=(Lib.decDigits n).map fun c=>(c.toNat:Int)
theorem Ko (d:Nat) (h:d<10):((UInt8.ofNat (48+d)).toNat:Int)=48+d:=by
 have:(UInt8.ofNat (48+d)).toNat=48+d:=by simp;omega
 omega
theorem sQ {n:Nat} (h:n<10):dL n=[48+(n:Int)]:=by
 unfold dL
 rw [Lib.decDigits,dif_pos h]
 simp only [List.map_cons,List.map_nil]
 rw [Ko n h]
theorem xA {n:Nat} (h: ¬n<10):dL n=dL (n / 10)++[48+((n % 10:Nat):Int)]:=by
 unfold dL
 rw [Lib.decDigits,dif_neg h,List.map_append]
 simp only [List.map_cons,List.map_nil]
 rw [Ko (n % 10) (Nat.mod_lt _ (by decide))]
theorem UM (n:Nat): ∀c∈dL n,48≤c∧c≤57:=by
 induction n using Nat.strongRecOn with
 | ind n ih=>
  intro c hc
  by_cases h:n<10
  ·rw [sQ h] at hc
   simp only [List.mem_singleton] at hc
   omega
  ·rw [xA h] at hc
   rcases List.mem_append.1 hc with hc | hc
   ·exact ih (n / 10) (by omega) c hc
   ·simp only [List.mem_singleton] at hc
    omega
theorem D7 (n:Nat):0<(dL n).length:=by
 by_cases h:n<10
 ·rw [sQ h];simp
 ·rw [xA h];simp
theorem PS (n:Nat) (hn:0<n):(dL n).getD 0 0≠48:=by
 induction n using Nat.strongRecOn with
 | ind n ih=>
  by_cases h:n<10
  ·rw [sQ h];simp only [List.getD_cons_zero];omega
  ·rw [xA h,oU _ _ _ (D7 _)]
   exact ih (n / 10) (by omega) (by omega)
theorem NP (n:Nat):val 10 (dL n)=n:=by
 induction n using Nat.strongRecOn with
 | ind n ih=>
  by_cases h:n<10
  ·rw [sQ h]
   unfold val
   simp only [List.foldl_cons,List.foldl_nil]
   unfold oG
   rw [if_pos (by omega)]
   omega
  ·rw [xA h]
   have:=ih (n / 10) (by omega)
   unfold val at this⊢
   rw [List.foldl_append,this]
   simp only [List.foldl_cons,List.foldl_nil]
   unfold oG
   rw [if_pos (by omega)]
   omega
def Ends (r:List Int):Prop:= ∀x m,r=x::m→jd x=false∧jh x=false
theorem Ends.nil:Ends []:=fun _ _ h=>by cases h
theorem Jc {x:Int} (h:jd x=false):10≤oG x:=by
 unfold jd at h
 simp only [decide_eq_false_iff_not] at h
 unfold oG
 rw [if_neg h]
 split
 ·omega
 ·split<;>omega
theorem Pg (p:Int→Bool) (r:List Int) (hr: ∀x m,r=x::m→p x=false): ∀l:List Int,(∀c∈l,p c=true)→pre p (l++r)=l.length
 | [],_=>by
  cases r with
  | nil=>rfl
  | cons x m=>simp [pre,hr x m rfl]
 | c::l,h=>by
  have:=Pg p r hr l fun d hd=>h d (by simp [hd])
  unfold pre at this⊢
  rw [List.cons_append,List.takeWhile_cons_of_pos (h c (by simp)),List.length_cons,List.length_cons,this]
theorem BU {r:List Int} (h: ∀x m,r=x::m→jh x=false):fC r=0:=
 (iL _ _).same ⟨Nat.zero_le _,fun j hj=>absurd hj (by omega),fun hl=>by
  cases r with
  | nil=>simp at hl
  | cons x m=>simp [nameB,h x m rfl]⟩
theorem vF {r:List Int} (h: ∀x m,r=x::m→jd x=false):cN r=0:=by
 cases r with
 | nil=>simp [cN,jv,cB,gN,rN,pre]
 | cons x m=>
  have hx:=h x m rfl
  have hd:=Jc hx
  have h48:x≠48:=by rintro rfl;simp [jd] at hx
  have e1:jv (x::m)=false:=by simp [jv,h48]
  have e2:cB (x::m)=10:=by simp [cB,h48]
  unfold cN
  rw [e1,e2]
  simp only [Bool.false_eq_true,if_false]
  unfold gN
  rw [if_pos (by omega)]
  unfold rN pre
  have:um 10 x=false:=by unfold um;simpa using hd
  rw [List.takeWhile_cons_of_neg (by rw [this];decide)]
  rfl
theorem Vf (n:Nat) (hn:n≤9223372036854775807) (r:List Int) (hr:Ends r):cN (dL n++r)=(dL n).length∧cV (dL n++r)=n∧cO (dL n++r)=false:=by
 have hp: ∀b:Int,8≤b→b≤10→(∀c∈dL n,oG c<b)→rN b (dL n++r)=(dL n).length:=fun b hb hb2 hd=>
  Pg (um b) r (fun x m e=>by
   have:=Jc (hr x m e).1
   unfold um
   simp
   omega) (dL n) (fun c hc=>by
   unfold um
   simpa using hd c hc)
 have h10: ∀c∈dL n,oG c<10:=fun c hc=>by
  have:=UM n c hc
  unfold oG
  rw [if_pos this]
  omega
 have hex:jv (dL n++r)=false:=by
  by_cases hz:n=0
  ·subst hz
   rw [sQ (by omega)]
   cases r with
   | nil=>simp [jv]
   | cons x m=>
    have h1:=(hr x m rfl).2
    have h2:x≠120∧x≠88:=by
     refine ⟨?_,?_⟩<;>(rintro rfl;simp [jh] at h1)
    simp [jv,h2.1,h2.2]
  ·have h1:=PS n (by omega)
   have h2:(dL n++r).getD 0 0≠48:=by rw [oU _ _ _ (D7 n)];exact h1
   have h3:((dL n++r).getD 0 0==48)=false:=by simpa using h2
   unfold jv
   rw [h3,Bool.and_false,Bool.false_and,Bool.false_and]
 have key: ∀b:Int,8≤b→b≤10→(∀c∈dL n,oG c<b)→val b (dL n)=n→gN b (dL n++r)=(dL n).length∧gV b (dL n++r)=n∧gO b (dL n++r)=false:=by
  intro b hb hb2 hd hv
  have hN:=hp b hb hb2 hd
  have hK:mM b (dL n++r) (dL n).length=n:=by unfold mM;rw [List.take_left];exact hv
  refine ⟨?_,?_,?_⟩
  ·unfold gN;rw [if_pos (by omega),hN]
  ·unfold gV rV;rw [if_pos (by omega),hN,hK];unfold cut;rw [if_pos (by omega)]
  ·unfold gO rO;rw [if_pos (by omega),hN,hK];unfold qZ;simp;omega
 have hkey:gN (cB (dL n++r)) (dL n++r)=(dL n).length∧gV (cB (dL n++r)) (dL n++r)=n∧gO (cB (dL n++r)) (dL n++r)=false:=by
  by_cases hz:n=0
  ·subst hz
   have e:cB (dL 0++r)=8:=by rw [sQ (by omega)];simp [cB]
   rw [e]
   refine key 8 (by omega) (by omega) ?_ ?_
   ·rw [sQ (by omega)];simp [oG]
   ·rw [sQ (by omega)];simp [val,oG]
  ·have h1:=PS n (by omega)
   have h2:(dL n++r).getD 0 0≠48:=by rw [oU _ _ _ (D7 n)];exact h1
   have e:cB (dL n++r)=10:=by unfold cB;rw [if_neg h2]
   rw [e]
   exact key 10 (by omega) (by omega) h10 (NP n)
 unfold cN cV cO
 rw [hex]
 exact hkey
def J9:List UInt8:=[61,60,62,38,124]
def zB (r:List Int):Prop:= ∀x m,r=x::m→0≤x∧x≤255∧x≠61∧x≠60∧x≠62∧x≠38∧x≠124
theorem Lm: ∀s∈aF,∀o∈aF,o.size<s.size→s.data.toList.take o.size=o.data.toList→(s.data.toList.getD o.size 0)∈J9:=by decide
theorem H7: ∀i:Fin 35,∀j:Fin 35,j.val<i.val→(aF.getD j.val ak).size≤(aF.getD i.val ak).size→(aF.getD i.val ak).data.toList.take (aF.getD j.val ak).size≠(aF.getD j.val ak).data.toList:=by decide
theorem qo (s:ByteArray):(bT s).map (fun n=>UInt8.ofNat n.toNat)=s.data.toList:=by
 have:=congrArg (fun t:ByteArray=>t.data.toList) (Dw s)
 exact this
theorem lQ (l:List Int) (s:ByteArray):begins l s=true↔s.size≤l.length∧(l.take s.size).map (fun n=>UInt8.ofNat n.toNat)=s.data.toList:=by
 unfold begins
 simp only [Bool.and_eq_true,decide_eq_true_eq]
 refine and_congr_right fun _=>⟨fun h=>?_,fun h=>?_⟩
 ·exact congrArg (fun t:ByteArray=>t.data.toList) h
 ·obtain ⟨d⟩:=s
  unfold dI
  congr 1
  apply Array.toList_inj.1
  exact h
theorem C9 (o:ByteArray) (r:List Int):begins (bT o++r) o=true:=by
 rw [lQ]
 have hl:(bT o).length=o.size:=bC o
 refine ⟨by rw [List.length_append];omega,?_⟩
 rw [←hl,List.take_left,qo]
theorem EX (i:Nat) (hi:i<35) (j:Nat) (hj:j<i) (r:List Int) (hr:zB r):begins (bT (aF.getD i ak)++r) (aF.getD j ak)=false:=by
 cases hb:begins (bT (aF.getD i ak)++r) (aF.getD j ak) with
 | false=>rfl
 | true=>
  exfalso
  rw [lQ] at hb
  obtain ⟨h1,h2⟩:=hb
  have hl:(bT (aF.getD i ak)).length=(aF.getD i ak).size:=bC _
  have hmi:aF.getD i ak∈aF:=by
   have:i<aF.length:=hi
   rw [List.getD,List.getElem?_eq_getElem this]
   exact List.getElem_mem _
  have hmj:aF.getD j ak∈aF:=by
   have:j<aF.length:=by show j<35;omega
   rw [List.getD,List.getElem?_eq_getElem this]
   exact List.getElem_mem _
  have ha:=H7 ⟨i,hi⟩ ⟨j,by omega⟩ hj
  simp only [] at ha
  have ht:=Lm _ hmj _ hmi
  generalize aF.getD i ak=o at*
  generalize aF.getD j ak=s at*
  by_cases hs:s.size≤o.size
  ·rw [List.take_append_of_le_length (by omega),List.map_take,qo] at h2
   exact ha hs h2
  ·rw [List.take_append,List.map_append,List.take_of_length_le (by omega),qo,hl] at h2
   cases r with
   | nil=>
    rw [List.length_append,List.length_nil] at h1
    omega
   | cons x m=>
    obtain ⟨k,hk⟩: ∃k,s.size - o.size=k+1:=⟨s.size - o.size - 1,by omega⟩
    rw [hk,List.take_succ_cons,List.map_cons] at h2
    have hol:o.data.toList.length=o.size:=Array.length_toList
    have e1:s.data.toList.take o.size=o.data.toList:=by rw [←h2, ←hol,List.take_left]
    have e2:s.data.toList.getD o.size 0=UInt8.ofNat x.toNat:=by
     rw [←h2, ←hol]
     simp [List.getD]
    have hm:=ht (by omega) e1
    rw [e2] at hm
    obtain ⟨x0,x1,y1,y2,y3,y4,y5⟩:=hr x m rfl
    have hx:(UInt8.ofNat x.toNat).toNat=x.toNat:=by simp;omega
    unfold J9 at hm
    simp only [List.mem_cons,List.not_mem_nil,or_false] at hm
    rcases hm with h | h | h | h | h
    all_goals
     rw [h] at hx
     have hx:_=x.toNat:=hx
     simp at hx
     omega
theorem H9 (l:List Int) (i:Nat): ∀L:List ByteArray,(∀j,j<i→begins l (L.getD j ak)=false)→i<L.length→begins l (L.getD i ak)=true→dJ l L=L.getD i ak:=by
 induction i with
 | zero=>
  intro L _ hl hb
  cases L with
  | nil=>simp at hl
  | cons s L=>
   simp only [List.getD_cons_zero] at hb⊢
   unfold dJ
   rw [if_pos hb]
 | succ i ih=>
  intro L hj hl hb
  cases L with
  | nil=>simp at hl
  | cons s L=>
   have h0:=hj 0 (by omega)
   simp only [List.getD_cons_zero] at h0
   unfold dJ
   rw [if_neg (by rw [h0];decide)]
   simp only [List.getD_cons_succ] at hb⊢
   exact ih L (fun j h=>by have:=hj (j+1) (by omega);simpa using this) (by simpa using hl) hb
theorem UD (i:Nat) (hi:i<35) (r:List Int) (hr:zB r):mG (bT (aF.getD i ak)++r)=aF.getD i ak:=
 H9 _ i aF (fun j hj=>EX i hi j hj r hr) hi (C9 _ r)
theorem Eb: ∀s∈aF,0<s.size∧(s.data.toList.all fun c=> !(decide (48≤c∧c≤57)) && !(decide ((97≤c∧c≤122)∨(65≤c∧c≤90)∨c=95)))=true:=by decide
end Go.Proofs.YtacfglopionkfaaGreatDoor
