import Derived.Test.YtacfglopionkfaaGreatDoorKAv
import Derived.Test.YtacfglopionkfaaGreatDoorKO
namespace Go.Proofs.YtacfglopionkfaaGreatDoor
set_option maxRecDepth 100000
open Go.RowKit Go.WideMaps Go.Maps
structure Zy (LV M:Vl):Prop where
 F9:M.lS
 E8: ∀x∈M,x.2.size≤9223372036854775807
 len:M.length≤40
theorem Zq {LV:Vl} (hsz: ∀x∈LV,x.1.size≤maxLen∧x.2.size≤maxLen):Zy LV (dD (LV.take 40)):=
 ⟨Ie _,fun x hx=>by have h1:=(hsz x (List.mem_of_mem_take (Ib hx).1)).2;unfold maxLen at h1;omega,by have h1:=yT (LV.take 40);have h2:=List.length_take_le 40 LV;omega⟩
def DN (s:Nat→Addr) (w:World) (er:Value) (c p g:Int):Prop:=
 (er= .nilIface∧c=0∧p=0∧g=0)∨ ∃cn pn:Nat,ErrAt w s cn pn er∧1≤cn∧cn≤21∧c=cn∧p=pn∧g=1
theorem DN.below {s:Nat→Addr} {w w':World} {er:Value} {c p g:Int} (h:DN s w er c p g) (hb:Below w.heap.size w w'):DN s w' er c p g:=
 h.imp id fun ⟨cn,pn,h1,h2⟩=>⟨cn,pn,kJ.below hb h1,h2⟩
theorem DN.tell {s:Nat→Addr} {w:World} {er:Value} {c p g:Int} (h:DN s w er c p g) (hs:o7 w s):Calls Tryz.prog 11 #[er] w fun e w'=>e= .returned (.agg #[.int .i64 c,.int .i64 p,.int .i64 g])∧Below w.heap.size w w':=by
 rcases h with ⟨rfl,rfl,rfl,rfl⟩ | ⟨cn,pn,h1,h2,h3,rfl,rfl,rfl⟩
 ·exact KG w
 ·exact KH s cn pn er w hs h1 h2 h3
structure Xi (s:Nat→Addr) (w:World) (vb N:Nat) (mo:Option Nat) (x c p g:Int) (L:Vl) (e:Ending) (w':World):Prop where
 val: ∃er,e= .returned (.tuple #[.int .i64 x,er])∧DN s w' er c p g
 bu:But (VB vb mo) w w'
 va: ∃jq N',aZ w' vb jq N' L∧N'≤N+2000∧(jq=mo∨(mo=none∧ ∃b,jq=some b∧w.heap.size≤b))
theorem But.since {w0 X Y:World} {vb:Nat} {mo:Option Nat} (h:But (VB vb mo) X Y) (hX:Below w0.heap.size w0 X) (hv:w0.heap.size≤vb) (hm: ∀mb,mo=some mb→w0.heap.size≤mb):Below w0.heap.size w0 Y:=
 hX.trans (h.below hX.size (by
  rintro i hi (e | e)
  ·omega
  ·have:=hm i e.symm;omega))
theorem Hy (b:List Int): ∃n r,n≤100000∧cZ b n=some r:=by
 by_cases h:1024<b.length
 ·refine ⟨0,.bad 2 0,by omega,?_⟩
  unfold cZ
  rw [if_pos h]
 ·obtain ⟨r,hr⟩:=CS b
  exact ⟨_,r,by omega,hr⟩
def Rv.xv:Rv→Int
 | .ok x _=>x
 | _=>0
def Rv.cv:Rv→Int
 | .bad c _=>c
 | _=>0
def Rv.pv:Rv→Int
 | .bad _ p=>p
 | _=>0
def Rv.gv:Rv→Int
 | .bad _ _=>1
 | _=>0
theorem J6 {X w':World} {vb N:Nat} {mo:Option Nat} {M:Vl} {rv:Rv} {s:Nat→Addr} {e:Ending} (hq:ZX X vb N mo M s rv e w') (hc: ∀c p,rv= .bad c p→1≤c∧c≤21):
  Xi s X vb N mo rv.xv rv.cv rv.pv rv.gv (Nk rv M) e w':=by
 obtain ⟨h1,h2,h3⟩:=hq
 refine ⟨?_,h2,h3⟩
 cases rv with
 | ok x e'=>
  obtain rfl:e= .returned (.tuple #[.int .i64 x,.nilIface]):=h1
  exact ⟨_,rfl,Or.inl ⟨rfl,rfl,rfl,rfl⟩⟩
 | bad c p=>
  obtain ⟨pv,rfl,her⟩:=h1
  obtain ⟨c1,c2⟩:=hc c p rfl
  exact ⟨_,rfl,Or.inr ⟨c,p,her,c1,c2,rfl,rfl,rfl⟩⟩
 | no=>exact h1.elim
end Go.Proofs.YtacfglopionkfaaGreatDoor
namespace Go.Proofs.YtacfglopionkfaaGreatDoor
set_option maxRecDepth 100000
open Go.RowKit Go.WideMaps Go.Maps
theorem endE_ok {M:Vl} (hM:M.lS) (hz: ∀x∈M,x.2.size≤9223372036854775807) {rv:Rv} (hI: ∀x e,rv= .ok x e→kC e):(Nk rv M).lS∧ ∀x∈Nk rv M,x.2.size≤9223372036854775807:=by
 cases rv with
 | ok v e=>
  have hr:=uO hM e
  refine ⟨hr,fun x hx=>?_⟩
  have h1:=valz hM hz (hI v e rfl) x.1
  have h2:dX (iK e M) x.1=some x.2:=(iD hr).2 hx
  unfold jB at h1
  rw [h2] at h1
  exact h1
 | bad c p=>exact ⟨hM,hz⟩
 | no=>exact ⟨hM,hz⟩
theorem run_both (w0:World) (s:Nat→Addr) (hs:o7 w0 s) (hT:TP w0) (b:List Int) (n:Nat) (t:Tr) (k:Tk) (hr:cZ b n=some (.ok t k)) (hb:nN b) (M:Vl) (hM:M.lS) (hz: ∀x∈M,x.2.size≤9223372036854775807) (hl:M.length≤2000):
  ∃(x c p g:Int) (L:Vl),L.length≤M.length+1100∧L.lS∧(∀x∈L,x.2.size≤9223372036854775807)∧
   (∀X cb vb N mo,Below w0.heap.size w0 X→w0.heap.size≤vb→(∀mb,mo=some mb→w0.heap.size≤mb)→jW X cb (comp t 0)→aZ X vb mo N M→N≤1000000→Calls Tryz.prog 30 #[.pointer (some ⟨cb,0,none⟩),.pointer (some ⟨vb,0,none⟩)] X (Xi s X vb N mo x c p g L))∧
   (∀X vv lo kv,t.In X lo kv→VS X vv M→Calls Tryz.prog 31 #[.agg #[.string t.op,.int .i64 t.val,.string t.nm,.int .i64 t.pos,.int .i64 t.aG,kv],vv] X fun e w'=>(∃v',e= .returned (.tuple #[.int .i64 x,v',.agg #[.int .i64 c,.int .i64 p,.int .i64 g]])∧VS w' v' L)∧Below X.heap.size X w'):=by
 obtain ⟨rv,rC⟩: ∃rv,ev (dY M) t []=rv:=⟨_,rfl⟩
 have ho:=pV hb hr
 have hf:=iM 32768 (by decide) t ho (pW hr)
 have hcd: ∀c p,rv= .bad c p→1≤c∧c≤21:=fun c p e=>jf (dY M) (fun n=>(jc _).2) t [] c p (rC.trans e)
 have h3:=gK t
 have h4:=oP hr
 have h6:=eG t 0
 obtain ⟨_,_,h5⟩:=lJ hr
 have hend:=endE_ok hM hz (rv:=rv) (fun x e he=>by
  rw [he] at rC
  exact (qY _ (fun n=>(jc _).1) t [] e x hf kC.nil rC).2)
 have hlen:(Nk rv M).length≤M.length+1100:=by
  cases rv with
  | ok x e=>
   have h1:=oh _ t [] e x rC
   have h2:=xR M e
   simp only [List.length_nil] at h1
   show (iK e M).length≤M.length+1100
   omega
  | bad c p=>show M.length≤M.length+1100;omega
  | no=>show M.length≤M.length+1100;omega
 refine ⟨rv.xv,rv.cv,rv.pv,rv.gv,Nk rv M,hlen,hend.1,hend.2,fun X cb vb N mo hX hv hm hc hva hN=>?_,fun X vv lo kv hk hvs=>?_⟩
 rotate_left
 ·refine (U4 t M hM hz (by omega) ho hf (by omega) vv kv X lo hk hvs).mono ?_
  rw [rC]
  rintro e w' ⟨hq,hb'⟩
  cases rv with
  | ok x e'=>
   obtain ⟨v',rfl,hv'⟩:=hq
   exact ⟨⟨v',rfl,hv'⟩,hb'⟩
  | bad c p=>
   obtain ⟨_,rfl⟩:=hq
   exact ⟨⟨_,rfl,hvs.below hb'⟩,hb'⟩
  | no=>exact hq.elim
 ·refine (KW cb t vb N mo M X s hc hva hz (hs.er.below hX) (fun Y hY=>hT.below (hY.since hX hv hm)) hf ho (by omega) (by omega) hN rv rC).mono ?_
  intro e w' hq
  exact J6 hq hcd
set_option maxHeartbeats 8000000 in
theorem steps_any (c:Nat) (t:Tr) (vb N:Nat) (mo:Option Nat) (l:Vl) (w:World) (sn:Nat→Addr) (hc:jW w c (comp t 0)) (hva:aZ w vb mo N l) (hz: ∀x∈l,x.2.size≤9223372036854775807) (hsn:Er w sn) (hT:TP w)
  (hfit:t.Fits) (hops:t.Ops) (tJ:need t≤1024) (hlen:(comp t 0).length≤900000):
  Calls Tryz.prog 29 #[.pointer (some ⟨c,0,none⟩),.pointer (some ⟨vb,0,none⟩)] w fun e w'=>(∃k:Nat,k≤(comp t 0).length∧e= .returned (.int .i64 k))∧Below w.heap.size w w':=by
 have hE:=Nc vb N mo l w hva hz hT
 obtain ⟨rv,hev⟩: ∃rv,ev (fun n=>numOf (jB l n)) t []=rv:=⟨_,rfl⟩
 have hno:rv≠ .no:=by rw [←hev];exact lD _ t [] hops
 have Gm:=Lib.hid (xW c _ w hc (mD t 0))
 have xk:=Lib.hid (nM (some ⟨vb,0,none⟩) w)
 obtain ⟨g,cap,cur,hcode,hcap,hgl,hg,hat⟩:=hc.parts (mD t 0)
 obtain ⟨f,hrun,hf⟩: ∃f,(∃r,runs (fun n=>numOf (jB l n)) (comp t 0) r ⟨0,[],[]⟩=some f)∧((∃m,f= .go m)∨ ∃a p,f= .bad a p):=by
  cases rv with
  | ok x e=>exact ⟨_,Dv tJ hev,Or.inl ⟨_,rfl⟩⟩
  | bad a p=>exact ⟨_,zQ tJ hev,Or.inr ⟨a,p,rfl⟩⟩
  | no=>exact absurd rfl hno
 obtain ⟨r,hr⟩:=hrun
 have JD:Hid (∀X,bf w.heap.size (w.heap.size+1) w.heap.size (some ⟨vb,0,none⟩) w ⟨0,[],[]⟩ 0 X→Calls Tryz.prog 63 #[.pointer (some ⟨w.heap.size+1,0,none⟩),.slice (some ⟨g,0,none⟩) (comp t 0).length cap] X fun e w'=>NM w.heap.size (w.heap.size+1) w.heap.size (some ⟨vb,0,none⟩) w sn (comp t 0).length f e w'∧StpQ (w.heap.size+1) (comp t 0).length w'):=Lib.hid (fun X hX=>
  Nb w.heap.size (w.heap.size+1) w.heap.size (some ⟨vb,0,none⟩) w X (jB l) (fun n=>numOf (jB l n)) sn hE (fun Y hY=>hsn.below hY) (comp t 0) _ ⟨g,cap,cur,rfl,hcap,hgl,hg,hat⟩ (dH t 0 hfit) hlen r _ f 0 ⟨hr,hX,⟨fun x hx=>by simp at hx,by simp,Nat.le_refl _⟩,Nat.le_refl _⟩)
 have HF:=Lib.hid hf
 have Yw:=Lib.hid hcode
 have hn0: ¬(comp t 0).length=0:=fun e=>mD t 0 (List.length_eq_zero_iff.1 e)
 clear hc hE hsn hT hfit hops tJ hev hno hcode hat hg hr hf hlen hva hz
 generalize (comp t 0).length=len at*
 have hne:decide ((len:Int)=0)=false:=decide_eq_false (by omega)
 have hne2:decide (len=0)=false:=decide_eq_false hn0
 go_enter Tryz.func29,Tryz.ntmps29
 go_wp2_with fail
 refine Gm.out.mono ?_
 rintro e w0 ⟨rfl,rfl⟩
 go_wp2_with fail
 refine xk.out.mono ?_
 rintro e w1 ⟨rfl,hr1⟩
 have HR1:=Lib.hid hr1
 obtain ⟨c0,_,hz⟩:=bU (jg Yw.out hr1.ch)
 clear hr1
 go_wp2_with fail
 refine (JD.out w1 HR1.out).mono ?_
 rintro e w2 ⟨hq,k,hk,hcell⟩
 clear c0 hz
 obtain ⟨ev,rfl,hb2⟩: ∃ev,e= .returned ev∧Below w.heap.size w w2:=by
  rcases HF.out with ⟨m,rfl⟩ | ⟨a,p,rfl⟩
  ·obtain ⟨rfl,⟨s,hr2⟩,_⟩:=hq
   exact ⟨_,rfl,hr2.ch⟩
  ·obtain ⟨pv,rfl,_,hb⟩:=hq
   exact ⟨_,rfl,hb⟩
 have HB2:=Lib.hid hb2
 have HK:=Lib.hid hk
 clear hq hb2 hk
 go_wp2_with fail
 go_ret
 exact ⟨⟨k,HK.out,rfl⟩,HB2.out⟩
end Go.Proofs.YtacfglopionkfaaGreatDoor
namespace Go.Proofs.YtacfglopionkfaaGreatDoor
set_option maxRecDepth 100000
open Go.RowKit Go.WideMaps Go.Maps
structure TwS (w:World) (vb k N:Nat) (mo:Option Nat) (M:Vl) (v:Value) (X:World):Prop where
 va:aZ X vb mo N M
 vs:VS X v M
 be:Below w.heap.size w X
 lo:w.heap.size≤vb
 RG: ∀mb,mo=some mb→w.heap.size≤mb
 F9:M.lS
 E8: ∀x∈M,x.2.size≤9223372036854775807
 len:M.length≤40+1100*k
 num:N≤40+2000*k
theorem TwS.below {w:World} {vb k N:Nat} {mo:Option Nat} {M:Vl} {v:Value} {X X':World} (h:TwS w vb k N mo M v X) (hb:Below X.heap.size X X'):TwS w vb k N mo M v X':=
 ⟨h.va.below hb,h.vs.below hb,h.be.trans (hb.mono h.be.size),h.lo,h.RG,h.F9,h.E8,h.len,h.num⟩
theorem VS.vars {X X':World} {v:Value} {M:Vl} {vb N:Nat} {mo:Option Nat} {l:Vl} (h:VS X v M) (hva:aZ X vb mo N l) (hb:But (VB vb mo) X X'):VS X' v M:=by
 by_cases h0:M=[]
 ·subst h0
  obtain ⟨x,y,e⟩:=rX h
  exact Or.inl ⟨rfl,x,y,e⟩
 ·refine h.but (fun d hd o cap e=>hb.block d hd ?_) hb.size
  rcases h with ⟨h1,_⟩ | ⟨d',o',cap',e',_,hc⟩
  ·exact absurd h1 h0
  ·rw [e'] at e
   simp only [Value.slice.injEq,Option.some.injEq,Addr.mk.injEq] at e
   have hd':d'=d:=e.1.1
   obtain ⟨p,hp⟩: ∃p,M[0]? =some p:=⟨M[0]'(List.length_pos_iff.2 h0),List.getElem?_eq_getElem _⟩
   obtain ⟨_,h2⟩:=hc 0 p hp
   rw [hd'] at h2
   rintro (rfl | hm)
   ·rw [Lib.cell_of_heap hva.blk] at h2
    have h3:=(Array.getElem?_eq_some_iff.1 h2).1
    simp at h3
   ·obtain ⟨D,⟨es,clock,h1,_⟩,_⟩:=hva.own d hm.symm
    simp [World.cell?,h1] at h2
set_option maxHeartbeats 16000000 in
theorem twice_bad (bv vv:Value) (b:List Int) (n c p:Nat) (s:Nat→Addr) (w:World) (hs:o7 w s) (hT:TP w) (hsl:Sl w bv b) (hp:cZ b n=some (.bad c p)):
  Calls Tryz.prog 6 #[bv,vv] w fun e w'=>e= .returned (.bool true)∧Below w.heap.size w w':=by
 have Ns:=Lib.hid (EM bv b n c p s w hp hsl hs.er)
 have ZR:Hid (∀X,Below w.heap.size w X→Calls Tryz.prog 23 #[] X fun e w'=>e= .returned (.bool true)∧Below X.heap.size X w'):=Lib.hid fun X hX=>uK s X (hs.er.below hX) (hT.below hX)
 obtain ⟨ba,bc,rfl⟩:=lX hsl
 clear hs hT hsl hp
 generalize b.length=bn at*
 go_enter Tryz.func6,Tryz.ntmps6
 go_wp2_with fail
 refine Ns.out.mono ?_
 rintro e X1 ⟨⟨pv,rfl,_⟩,hb1⟩
 have HB1:=Lib.hid hb1
 clear hb1
 go_wp2_with fail
 refine (ZR.out X1 HB1.out).mono ?_
 rintro e X2 ⟨rfl,hb2⟩
 have HB2:=Lib.hid (HB1.out.trans (hb2.mono HB1.out.size))
 clear hb2
 go_wp2_with fail
 go_ret
 exact ⟨rfl,HB2.out⟩
set_option maxHeartbeats 32000000 in
theorem twice_ok (bv vv:Value) (b:List Int) (LV:Vl) (n:Nat) (t:Tr) (tk:Tk) (s:Nat→Addr) (w:World) (hs:o7 w s) (hT:TP w) (hsl:Sl w bv b) (hv:VS w vv LV) (hlen:LV.length≤9223372036854775807) (hsz: ∀x∈LV,x.1.size≤maxLen∧x.2.size≤maxLen) (hp:cZ b n=some (.ok t tk)) (hn:n≤100000):
  Calls Tryz.prog 6 #[bv,vv] w fun e w'=>e= .returned (.bool true)∧Below w.heap.size w w':=by
 obtain ⟨M0,hM⟩: ∃M,M=dD (LV.take 40):=⟨_,rfl⟩
 have Yr:=Zq hsz
 rw [←hM] at Yr
 have hby:=hsl.1
 have hops:=pV hby hp
 have hfit:=iM 32768 (by decide) t hops (pW hp)
 obtain ⟨hwf,_,hbl⟩:=lJ hp
 have hs1:=oP hp
 have hs2:=gK t
 have hs3:=eG t 0
 have Ns:=Lib.hid (xG bv b n t tk s w hp hsl hs.er)
 have vH:Hid (∀E X,xO X E t→Calls Tryz.prog 26 #[.pointer (some ⟨E,0,none⟩)] X fun x w'=>(∃c,x= .returned (.pointer (some ⟨c,0,none⟩))∧jW w' c (comp t 0))∧Below X.heap.size X w'):=Lib.hid (fun E X hX=>uz E t X hX hwf hops (by omega))
 have Jl:Hid (∀c X,jW X c (comp t 0)→Calls Tryz.prog 27 #[.pointer (some ⟨c,0,none⟩)] X fun e w'=>e= .returned (.int .i64 ((comp t 0).length:Nat))∧X=w'):=Lib.hid (fun c X h=>xW c _ X h (mD t 0))
 have HSI:Hid (∀E X,xO X E t→Calls Tryz.prog 28 #[.pointer (some ⟨E,0,none⟩)] X fun x w'=>x= .returned (.int .i64 (sizeT t))∧Below X.heap.size X w'):=Lib.hid (fun E X h=>size_of b n t tk E X hp h)
 have Z4:Hid (∀X,Below w.heap.size w X→Calls Tryz.prog 13 #[vv] X fun e w'=> ∃vb mo vm,e= .returned (.tuple #[.pointer (some ⟨vb,0,none⟩),vm])∧FW X vb mo 40 M0 M0 vm w'):=Lib.hid fun X hX=>by rw [hM];exact LQ vv LV X (hv.below hX) hlen (fun x hx=>(hsz x hx).1)
 have ZR:Hid (∀X,Below w.heap.size w X→Calls Tryz.prog 23 #[] X fun e w'=>e= .returned (.bool true)∧Below X.heap.size X w'):=Lib.hid fun X hX=>uK s X (hs.er.below hX) (hT.below hX)
 have HPR:Hid (∀X,Below w.heap.size w X→Calls Tryz.prog 10 #[bv] X fun e w'=>(∃(oa:Option Addr) (na:Nat),e= .returned (.tuple #[.agg #[.string t.op,.int .i64 t.val,.string t.nm,.int .i64 t.pos,.int .i64 t.aG,.slice oa na na],.agg #[.int .i64 0,.int .i64 0,.int .i64 0]])∧t.In w' X.heap.size (.slice oa na na))∧Below X.heap.size X w'):=Lib.hid fun X hX=>Qh bv b n _ X hn hp (hsl.below hX)
 have HST:Hid (∀X vb cb N mo M,Below w.heap.size w X→jW X cb (comp t 0)→aZ X vb mo N M→(∀x∈M,x.2.size≤9223372036854775807)→Calls Tryz.prog 29 #[.pointer (some ⟨cb,0,none⟩),.pointer (some ⟨vb,0,none⟩)] X fun e w'=>(∃k:Nat,k≤(comp t 0).length∧e= .returned (.int .i64 k))∧Below X.heap.size X w'):=Lib.hid fun X vb cb N mo M hX hc hva hz=>steps_any cb t vb N mo M X s hc hva hz (hs.er.below hX) (hT.below hX) hfit hops (by omega) (by omega)
 have ZO:Hid (∀W,Below w.heap.size w W→ ∀M:Vl,M.lS→(∀x∈M,x.2.size≤9223372036854775807)→M.length≤2000→_):=Lib.hid fun W hW M h1 h2 h3=>run_both W s (hs.below hW) (hT.below hW) b n t tk hp hby M h1 h2 h3
 have RI:Hid (∀X,Below w.heap.size w X→o7 X s):=Lib.hid fun X hX=>hs.below hX
 have HM4:=Lib.hid Yr
 have RX:Hid ((comp t 0).length≤8*sizeT t+8∧sizeT t≤100000):=Lib.hid (by omega)
 obtain ⟨ba,bc,rfl⟩:=lX hsl
 obtain ⟨la,lc,rfl⟩:=hv.shape
 clear hs hT hsl hv hlen hsz hM Yr hp hby hops hfit hwf hbl hs1 hs2 hs3
 generalize b.length=bn at*
 generalize LV.length=ln at*
 obtain ⟨code,hcode⟩: ∃code,code=comp t 0:=⟨_,rfl⟩
 rw [←hcode] at vH Jl HST RX
 obtain ⟨cl,hcl⟩: ∃cl,cl=code.length:=⟨_,rfl⟩
 rw [←hcl] at Jl HST RX
 obtain ⟨sz,hsz⟩: ∃sz,sz=sizeT t:=⟨_,rfl⟩
 rw [←hsz] at HSI RX
 have HCODE:=Lib.hid hcode
 clear hcode hcl hsz
 have YN:=Lib.hid (decide_eq_false (p:=(cl:Int)<0) (by omega))
 have HCG:Hid (decide (8*(sz:Int)+8<(cl:Int))=false):=Lib.hid (decide_eq_false (by have:=RX.out;omega))
 have HM1:Hid (wrap64 (8*(sz:Int))=8*(sz:Int)):=Lib.hid (by have:=RX.out;unfold wrap64;omega)
 have HM2:Hid (wrap64 (8*(sz:Int)+8)=8*(sz:Int)+8):=Lib.hid (by have:=RX.out;unfold wrap64;omega)
 go_enter Tryz.func6,Tryz.ntmps6
 go_wp2_with fail
 refine Ns.out.mono ?_
 rintro e X1 ⟨⟨E,rfl,hE⟩,hb1⟩
 have HB1:=Lib.hid hb1
 have HE:=Lib.hid hE
 clear hb1 hE Ns
 go_wp2_with fail
 refine (vH.out E X1 HE.out).mono ?_
 rintro e X2 ⟨⟨cb,rfl,hcd⟩,hb2⟩
 have HB2:=Lib.hid (HB1.out.trans (hb2.mono HB1.out.size))
 have HE2:=Lib.hid (HE.out.below hb2)
 have Yw:=Lib.hid hcd
 clear hb2 hcd vH HB1 HE
 have c1:=YN.out
 go_wp2_with fail
 refine (Jl.out cb X2 Yw.out).mono ?_
 rintro e _ ⟨rfl,rfl⟩
 go_wp2_with fail
 refine (Jl.out cb X2 Yw.out).mono ?_
 rintro e _ ⟨rfl,rfl⟩
 go_wp2_with fail
 refine (HSI.out E X2 HE2.out).mono ?_
 rintro e X3 ⟨rfl,hb3⟩
 have HB3:=Lib.hid (HB2.out.trans (hb3.mono HB2.out.size))
 have HCD3:=Lib.hid (Yw.out.below hb3)
 clear hb3 HB2 Yw HSI HE2
 have c2:=HCG.out
 have c3:=HM1.out
 have c4:=HM2.out
 go_wp2_with fail
 refine (Z4.out X3 HB3.out).mono ?_
 rintro e X4 ⟨vb,mo,vm,rfl,hi⟩
 obtain ⟨va,vc,rfl⟩:=dW hi.row
 have H0:Hid (TwS X3 vb 0 40 mo M0 (.slice va M0.length vc) X4):=Lib.hid ⟨hi.va,VS.xJ hi.row,hi.bel,hi.lo,hi.RG,HM4.out.F9,HM4.out.E8,by have:=HM4.out.len;omega,by omega⟩
 clear hi Z4 HM4 c1 c2 c3 c4
 have HRX:=Lib.hid (ZO.out X3 HB3.out)
 clear ZO
 go_wp2_with fail
 go_loopw [9,54] (fun m9 i9 X=> ∃(k N:Nat) (mo:Option Nat) (M:Vl) (ma:Option Addr) (mc:Nat),m9= .slice ma M.length mc∧i9= .int .i64 (k:Nat)∧k≤2∧TwS X3 vb k N mo M (.slice ma M.length mc) X) (fun _ i9 _=>2 - (intOf i9).toNat)
 case atStart=>exact ⟨0,40,mo,M0,va,vc,rfl,rfl,by omega,H0.out⟩
 case round=>
  clear H0
  obtain ⟨k,N,mo1,M,ma,mc,rfl,rfl,hk2,hi⟩:=hrel
  have HI:=Lib.hid hi
  clear hi
  by_cases hlt:k<2
  ·have uF:(k:Int)<2:=by omega
   have HK:=Lib.hid hlt
   obtain ⟨xv,cv,pv,gv,LL,hLL,hris,hsiz,hrun,href⟩:=HRX.out M HI.out.F9 HI.out.E8 (by have:=HI.out.len;omega)
   have HLL:=Lib.hid hLL
   have HLR:=Lib.hid hris
   have HLS:=Lib.hid hsiz
   have HRN:=Lib.hid hrun
   have VL:=Lib.hid href
   have HLM:Hid (M.length≤1000000∧N≤1000000):=Lib.hid ⟨by have:=HI.out.len;omega,by have:=HI.out.num;omega⟩
   clear hLL hris hsiz hrun href
   generalize hml:M.length=ml at*
   have ZP:=Lib.hid hml
   clear hml
   go_wp2_with fail
   refine (uT vb N mo1 M wr HI.out.va HLM.out.2 (by rw [ZP.out];exact HLM.out.1)).mono ?_
   rintro e Y1 ⟨⟨v1,rfl,hv1⟩,hb⟩
   have HW1:=Lib.hid hv1
   have HI1:=Lib.hid (HI.out.below hb)
   obtain ⟨a1,ac1,rfl⟩:=hv1.shape
   clear hb hv1 HI
   rw [ZP.out]
   have HYY:Hid (∀Y,Below X3.heap.size X3 Y→Below w.heap.size w Y):=Lib.hid fun Y hY=>HB3.out.trans (hY.mono HB3.out.size)
   go_wp2_with fail
   refine (HST.out Y1 vb cb N mo1 M (HYY.out Y1 HI1.out.be) (HCD3.out.below HI1.out.be) HI1.out.va HI1.out.E8).mono ?_
   rintro e Y2 ⟨⟨kk,hkk,rfl⟩,hb⟩
   have HI2:=Lib.hid (HI1.out.below hb)
   have HW2:=Lib.hid (HW1.out.below hb)
   have HC5:Hid (decide ((kk:Int)<0)=false):=Lib.hid (decide_eq_false (by omega))
   have Xa:Hid (decide ((cl:Int)<(kk:Int))=false∧decide (cl<kk)=false):=Lib.hid ⟨decide_eq_false (by omega),decide_eq_false (by omega)⟩
   clear hb hkk HI1 HW1
   have c5:=HC5.out
   go_wp2_with fail
   refine (Jl.out cb Y2 (HCD3.out.below HI2.out.be)).mono ?_
   rintro e _ ⟨rfl,rfl⟩
   obtain ⟨c6,c7⟩:=Xa.out
   go_wp2_with fail
   refine (uT vb N mo1 M Y2 HI2.out.va HLM.out.2 (by rw [ZP.out];exact HLM.out.1)).mono ?_
   rintro e Y3 ⟨⟨v3,rfl,hv3⟩,hb⟩
   have HW3:=Lib.hid hv3
   have HI3:=Lib.hid (HI2.out.below hb)
   have Yt:=Lib.hid (HW2.out.below hb)
   obtain ⟨a3,ac3,rfl⟩:=hv3.shape
   rw [ZP.out] at Yt
   clear hb hv3 HI2 HW2 c5 c6 c7
   go_wp2_with fail
   refine (xU _ _ M Y3 HW3.out Yt.out (by rw [ZP.out];exact HLM.out.1)).mono ?_
   rintro e Y4 ⟨rfl,hb⟩
   have HI4:=Lib.hid (HI3.out.below hb)
   clear hb HI3 HW3 Yt
   go_wp2_with fail
   refine (HRN.out Y4 cb vb N mo1 HI4.out.be HI4.out.lo HI4.out.RG (by rw [←HCODE.out];exact HCD3.out.below HI4.out.be) HI4.out.va HLM.out.2).mono ?_
   rintro e Y5 ⟨⟨er,rfl,Zt⟩,hbu,mo2,N2,hva2,hN2,hmo2⟩
   have FX:Hid (Below X3.heap.size X3 Y5):=Lib.hid (hbu.since HI4.out.be HI4.out.lo HI4.out.RG)
   have HV5:=Lib.hid (HI4.out.vs.vars HI4.out.va hbu)
   have HTL:=Lib.hid Zt
   have HVA5:=Lib.hid hva2
   have Fb:Hid (N2≤40+2000*(k+1)∧N2≤1000000):=Lib.hid ⟨by have:=HI4.out.num;omega,by have:=HI4.out.num;have:=HK.out;omega⟩
   have HM2:Hid (∀mb,mo2=some mb→X3.heap.size≤mb):=Lib.hid (fun mb e=>by
    rcases hmo2 with rfl | ⟨_,b',e',hlt'⟩
    ·exact HI4.out.RG mb e
    ·rw [e'] at e;have:=Option.some.inj e;have:=HI4.out.be.size;omega)
   have HLO:=Lib.hid HI4.out.lo
   have Yv:Hid (LL.length≤40+1100*(k+1)∧LL.length≤1000000):=Lib.hid ⟨by have:=HI4.out.len;have:=HLL.out;have:=ZP.out;omega,by have:=HLL.out;have:=HLM.out.1;have:=HI4.out.len;have:=HK.out;have:=ZP.out;omega⟩
   clear Zt hbu hva2 hN2 hmo2 HI4
   go_wp2_with fail
   refine (HPR.out Y5 (HYY.out Y5 FX.out)).mono ?_
   rintro e Y6 ⟨⟨oa,na,rfl,hin⟩,hb⟩
   have HB56:=Lib.hid hb
   have nY:=Lib.hid hin
   clear hb hin
   go_upto_region 16 with fail
   obtain ⟨V,hV⟩: ∃V,V=(Y6.alloc (.cells #[.string t.op,.int .i64 t.val,.string t.nm,.int .i64 t.pos,.int .i64 t.aG,.slice oa na na] 30)).alloc (.cells #[.int .i64 0,.int .i64 0,.int .i64 0] 32):=⟨_,rfl⟩
   rw [←hV]
   have HB6V:Hid (Below Y6.heap.size Y6 V):=Lib.hid (by rw [hV];exact ((Below.refl _ _).alloc (Nat.le_refl _) _).alloc (by simp) _)
   have HG:Hid (V.heap[Y6.heap.size]? =some (.cells #[.string t.op,.int .i64 t.val,.string t.nm,.int .i64 t.pos,.int .i64 t.aG,.slice oa na na] 30 (0,0))):=Lib.hid (by rw [hV];exact aN (heap_alloc_last Y6 _) _)
   have Qm:Hid (t.In V Y5.heap.size (.slice oa na na)):=Lib.hid (nY.out.kept (fun k _ hs=>HB6V.out.block k hs) t _)
   have HB5V:Hid (Below Y5.heap.size Y5 V):=Lib.hid (HB56.out.trans (HB6V.out.mono HB56.out.size))
   clear hV nY HB6V HB56
   have HVV:=Lib.hid (HV5.out.below HB5V.out)
   obtain ⟨⟨z0,z1,z2,z3,z4,z5⟩,_⟩:=aA HG.out
   go_wp2_with fail
   refine (VL.out V _ _ _ Qm.out HVV.out).mono ?_
   rintro e Y7 ⟨⟨v7,rfl,hv7⟩,hb⟩
   obtain ⟨a7,c7,rfl⟩:=hv7.shape
   have HB57:=Lib.hid (HB5V.out.trans (hb.mono HB5V.out.size))
   have HV7:=Lib.hid hv7
   clear hb hv7 z0 z1 z2 z3 z4 z5 Qm HVV HG HB5V HV5
   go_wp2_with fail
   obtain ⟨Y8,hY8⟩: ∃Y8,Y8=Y7.alloc (.cells #[.int .i64 cv,.int .i64 pv,.int .i64 gv] 32):=⟨_,rfl⟩
   have HB78:Hid (Below Y7.heap.size Y7 Y8):=Lib.hid (by rw [hY8];exact (Below.refl _ _).alloc (Nat.le_refl _) _)
   have HF8:Hid (Y8.heap[Y7.heap.size]? =some (.cells #[.int .i64 cv,.int .i64 pv,.int .i64 gv] 32 (0,0))):=Lib.hid (by rw [hY8];exact heap_alloc_last Y7 _)
   rw [←hY8]
   clear hY8
   have HB58:Hid (Below Y5.heap.size Y5 Y8):=Lib.hid (HB57.out.trans (HB78.out.mono HB57.out.size))
   have HB8:Hid (Below X3.heap.size X3 Y8):=Lib.hid (FX.out.trans (HB58.out.mono FX.out.size))
   have HVA8:=Lib.hid (HVA5.out.below HB58.out)
   have HV8:=Lib.hid (HV7.out.below HB78.out)
   have HTL8:Hid (∀Y,Below Y8.heap.size Y8 Y→_):=Lib.hid fun Y hY=>(HTL.out.below (HB58.out.trans (hY.mono HB58.out.size))).tell (RI.out Y (HYY.out Y (HB8.out.trans (hY.mono HB8.out.size))))
   have Qr:Hid (∀X,Below Y8.heap.size Y8 X→X.cell? ⟨Y7.heap.size,0,none⟩=some (.int .i64 cv)∧X.cell? ⟨Y7.heap.size,1,none⟩=some (.int .i64 pv)∧X.cell? ⟨Y7.heap.size,2,none⟩=some (.int .i64 gv)):=Lib.hid fun X hX=>(kY ((hX.block _ (lt_of_heap HF8.out)).trans HF8.out)).1
   have EF:=Lib.hid (QS cv pv gv)
   clear HTL HVA5 HV7 HB78 HF8 HB58 HB57 FX
   generalize Y7.heap.size=fb at*
   refine Reg.bI (fun X=>Below Y8.heap.size Y8 X) (fun j=>([some (.int .i64 xv),some (.int .i64 xv),some (.bool false),some (.bool false),some (er),some (.agg #[.int .i64 cv,.int .i64 pv,.int .i64 gv]),some (.agg #[.int .i64 cv,.int .i64 pv,.int .i64 gv]),some (.bool false),some (.bool false),some (.bool false),some (.pointer (some ⟨vb,0,none⟩)),none,some (.slice a7 LL.length c7),some (.bool true),some (.bool false),some (.bool false)]:List (Option Value)).getD j none) (fun _ z X=> ∃a9 c9,z= .slice a9 LL.length c9∧VS X z LL) (by kernel_rfl) (by kernel_rfl) (by kernel_rfl) (by kernel_rfl) ?iY ?rsE ?iW
   case iY=>exact (Below.refl _ _).drew
   case rsE=>
    refine Reg.ah.plain rfl (fun T X hS hk K hK=>?_) ?_
    ·have g12:=hk.old 12 rfl
     have hK:=hK _ X hS (Reg.Is.aj rfl) (fun _ _ _ h=>h)
     clear hk
     go_simp
     exact hK
    refine Reg.ah.plain rfl (fun T X hS hk K hK=>?_) ?_
    ·have g16:=hk.old 16 rfl
     have hK:=hK _ X hS (Reg.Is.aj rfl) (fun _ _ _ h=>h)
     clear hk
     go_simp
     exact hK
    refine Reg.ah.plain rfl (fun T X hS hk K hK=>?_) ?_
    ·have g95:=hk.val 0 95 rfl
     have g96:=hk.val 1 96 rfl
     have hK:=hK _ X hS (Reg.Is.aj rfl) (fun _ _ _ h=>h)
     clear hk
     go_simp
     exact hK
    refine Reg.ah.plain rfl (fun T X hS hk K hK=>?_) ?_
    ·have g97:=hk.val 2 97 rfl
     have hK:=hK _ X hS (Reg.Is.aj rfl) (fun _ _ _ h=>h)
     clear hk
     go_simp
     exact hK
    refine Reg.ah.guarded 3 98 false rfl (by kernel_rfl) (by kernel_rfl) rfl (fun T X hS hk K hK=>?_) ?_
    ·have g13:=hk.old 13 rfl
     have hK:=hK _ X hS (Reg.Is.aj rfl) (fun _ _ _ h=>h)
     clear hk
     go_simp
     exact hK
    refine Reg.ah.guarded 3 98 false rfl (by kernel_rfl) (by kernel_rfl) rfl (fun T X hS hk K hK=>?_) ?_
    ·have g99:=hk.val 4 99 rfl
     clear hk
     go_simp
     refine (HTL8.out X hS).mono ?_
     rintro e w1 ⟨rfl,hb⟩
     exact hK _ _ (hS.trans (hb.mono hS.size)) (Reg.Is.aj rfl) (by rintro j z hj ⟨a9,c9,rfl,h9⟩;exact ⟨a9,c9,rfl,h9.below hb⟩)
    refine Reg.ah.guarded 3 98 false rfl (by kernel_rfl) (by kernel_rfl) rfl (fun T X hS hk K hK=>?_) ?_
    ·have g18:=hk.old 18 rfl
     obtain ⟨c0,c1,c2⟩:=Qr.out X hS
     have hK:=hK _ X hS (Reg.Is.aj rfl) (fun _ _ _ h=>h)
     clear hk
     go_simp
     exact hK
    refine Reg.ah.guarded 3 98 false rfl (by kernel_rfl) (by kernel_rfl) rfl (fun T X hS hk K hK=>?_) ?_
    ·have g100:=hk.val 5 100 rfl
     have g101:=hk.val 6 101 rfl
     have q2:=EF.out
     have hK:=hK _ X hS (Reg.Is.aj rfl) (fun _ _ _ h=>h)
     clear hk
     go_simp
     exact hK
    refine Reg.ah.plain rfl (fun T X hS hk K hK=>?_) ?_
    ·have g98:=hk.val 3 98 rfl
     have g102:=hk.val 7 102 rfl
     have hK:=hK _ X hS (Reg.Is.aj rfl) (fun _ _ _ h=>h)
     clear hk
     go_simp
     exact hK
    refine Reg.ah.plain rfl (fun T X hS hk K hK=>?_) ?_
    ·have g103:=hk.val 8 103 rfl
     have hK:=hK _ X hS (Reg.Is.aj rfl) (fun _ _ _ h=>h)
     clear hk
     go_simp
     exact hK
    refine Reg.ah.guarded 9 104 false rfl (by kernel_rfl) (by kernel_rfl) rfl (fun T X hS hk K hK=>?_) ?_
    ·have g8:=hk.old 8 rfl
     have hK:=hK _ X hS (Reg.Is.aj rfl) (fun _ _ _ h=>h)
     clear hk
     go_simp
     exact hK
    refine Reg.ah.guarded 9 104 false rfl (by kernel_rfl) (by kernel_rfl) rfl (fun T X hS hk K hK=>?_) ?_
    ·have g105:=hk.val 10 105 rfl
     clear hk
     go_simp
     refine (uT vb N2 mo2 LL X (HVA8.out.below hS) Fb.out.2 Yv.out.2).mono ?_
     rintro e w1 ⟨⟨v9,rfl,hv9⟩,hb⟩
     exact hK _ _ (hS.trans (hb.mono hS.size)) (Reg.Is.XK rfl (by obtain ⟨a9,c9,rfl⟩:=hv9.shape;exact ⟨a9,c9,rfl,hv9⟩)) (by rintro j z hj ⟨a9,c9,rfl,h9⟩;exact ⟨a9,c9,rfl,h9.below hb⟩)
    refine Reg.ah.guarded 9 104 false rfl (by kernel_rfl) (by kernel_rfl) rfl (fun T X hS hk K hK=>?_) ?_
    ·have g9:=hk.old 9 rfl
     have hK:=hK _ X hS (Reg.Is.aj rfl) (fun _ _ _ h=>h)
     clear hk
     go_simp
     exact hK
    refine Reg.ah.guarded 9 104 false rfl (by kernel_rfl) (by kernel_rfl) rfl (fun T X hS hk K hK=>?_) ?_
    ·obtain ⟨x106,g106,r106⟩:=hk.prop 11 106 (by kernel_rfl) (by kernel_rfl) rfl
     have g107:=hk.val 12 107 rfl
     obtain ⟨a9,c9,rfl,h9⟩:=r106
     clear hk
     go_simp
     refine (xU _ _ LL X h9 (HV8.out.below hS) Yv.out.2).mono ?_
     rintro e w1 ⟨rfl,hb⟩
     exact hK _ _ (hS.trans (hb.mono hS.size)) (Reg.Is.aj rfl) (by rintro j z hj ⟨a9,c9,rfl,h9⟩;exact ⟨a9,c9,rfl,h9.below hb⟩)
    refine Reg.ah.guarded 9 104 false rfl (by kernel_rfl) (by kernel_rfl) rfl (fun T X hS hk K hK=>?_) ?_
    ·have g108:=hk.val 13 108 rfl
     have hK:=hK _ X hS (Reg.Is.aj rfl) (fun _ _ _ h=>h)
     clear hk
     go_simp
     exact hK
    refine Reg.ah.plain rfl (fun T X hS hk K hK=>?_) ?_
    ·have g104:=hk.val 9 104 rfl
     have g109:=hk.val 14 109 rfl
     have hK:=hK _ X hS (Reg.Is.aj rfl) (fun _ _ _ h=>h)
     clear hk
     go_simp
     exact hK
    exact Reg.ah.nil
   case iW=>
    intro u w1 hS hI
    have e0:u 0= .int .i64 xv:=(hI 0 (by decide)).val rfl
    have e1:u 1= .int .i64 xv:=(hI 1 (by decide)).val rfl
    have e2:u 2= .bool false:=(hI 2 (by decide)).val rfl
    have e3:u 3= .bool false:=(hI 3 (by decide)).val rfl
    have e4:u 4=er:=(hI 4 (by decide)).val rfl
    have e5:u 5= .agg #[.int .i64 cv,.int .i64 pv,.int .i64 gv]:=(hI 5 (by decide)).val rfl
    have e6:u 6= .agg #[.int .i64 cv,.int .i64 pv,.int .i64 gv]:=(hI 6 (by decide)).val rfl
    have e7:u 7= .bool false:=(hI 7 (by decide)).val rfl
    have e8:u 8= .bool false:=(hI 8 (by decide)).val rfl
    have e9:u 9= .bool false:=(hI 9 (by decide)).val rfl
    have e10:u 10= .pointer (some ⟨vb,0,none⟩):=(hI 10 (by decide)).val rfl
    have e11:=(hI 11 (by decide)).prop rfl
    have e12:u 12= .slice a7 LL.length c7:=(hI 12 (by decide)).val rfl
    have e13:u 13= .bool true:=(hI 13 (by decide)).val rfl
    have e14:u 14= .bool false:=(hI 14 (by decide)).val rfl
    have e15:u 15= .bool false:=(hI 15 (by decide)).val rfl
    clear hI
    simp only [Reg.aK,Act.put,List.setIfInBounds_toArray,List.set_cons_succ,List.set_cons_zero,Nat.zero_add,Nat.reduceAdd,e0,e1,e2,e3,e4,e5,e6,e7,e8,e9,e10,e12,e13,e14,e15]
    clear e0 e1 e2 e3 e4 e5 e6 e7 e8 e9 e10 e12 e13 e14 e15
    have HZ:Hid (TwS X3 vb (k+1) N2 mo2 LL (.slice a7 LL.length c7) w1):=Lib.hid ⟨HVA8.out.below hS,HV8.out.below hS,HB8.out.trans (hS.mono HB8.out.size),HLO.out,HM2.out,HLR.out,HLS.out,Yv.out.1,Fb.out.1⟩
    clear hS
    have hk1:(k:Int)+1≤9223372036854775807:=by have:=HK.out;omega
    go_wp2_with fail
    go_roundw
    case rel=>exact ⟨k+1,N2,mo2,LL,a7,c7,rfl,by go_num,HK.out,HZ.out⟩
    case measure=>simp [intOf];omega
  ·have uF: ¬(k:Int)<2:=by omega
   have HZ:=Lib.hid (HB3.out.trans (HI.out.be.mono HB3.out.size))
   clear HI
   go_wp2_with fail
   refine (ZR.out wr HZ.out).mono ?_
   rintro e Y1 ⟨rfl,hb⟩
   have HY:=Lib.hid (HZ.out.trans (hb.mono HZ.out.size))
   clear hb
   go_wp2_with fail
   go_ret
   exact ⟨rfl,HY.out⟩
theorem RP {H:Type} {enc:TypeId × Value→H} {d0 d1:DataW H} {p0 p1:List MemPlace} {q:Prop} (W:World) (base:Nat) (v0 v1:Value)
  (h0:DataW.Trod enc Tryz.prog W 0 (fun _=>true) true 22 v0 d0 p0) (h1:DataW.Trod enc Tryz.prog W 0 (fun _=>true) true 38 v1 d1 p1)
  (k0:Value.okWide Tryz.prog W .any base 22 v0) (k1:Value.okWide Tryz.prog W .any base 38 v1) (_:q)
  (hL:laidMetH Tryz.prog Rows.arithTwiceRow.laid W):
  Calls Tryz.prog 6 #[v0,v1] W fun e W'=>e= .returned (.bool true)∧Below W.heap.size W W':=by
 obtain ⟨b,hb⟩:=Zn k0 h0
 obtain ⟨l,hl,hlen,hsz⟩:=Ox k1 h1
 obtain ⟨sn,hs,hT⟩:=UU ⟨("math/bits.deBruijn32tab",Rows.laid_math_bits_deBruijn32tab),("math/bits.deBruijn64tab",Rows.laid_math_bits_deBruijn64tab),by kernel_rfl⟩ (by kernel_rfl) hL
 obtain ⟨n,r,hn,hr⟩:=Hy b
 cases r with
 | ok t tk=>exact twice_ok v0 v1 b l n t tk sn W hs hT hb hl (by unfold maxLen at hlen;omega) hsz hr hn
 | bad c p=>exact twice_bad v0 v1 b n c p sn W hs hT hb hr
end Go.Proofs.YtacfglopionkfaaGreatDoor
