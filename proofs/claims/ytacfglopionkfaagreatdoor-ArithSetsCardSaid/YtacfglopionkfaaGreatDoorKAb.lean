import Derived.Test.YtacfglopionkfaaGreatDoorKAu
import Derived.Test.YtacfglopionkfaaGreatDoorKLi
import Derived.Test.YtacfglopionkfaaGreatDoorKOs
import Derived.Test.YtacfglopionkfaaGreatDoorKAs
import Derived.Test.YtacfglopionkfaaGreatDoorKNu
import Derived.Deep.LoopGhost
import Derived.Test.YtacfglopionkfaaGreatDoorKDg
import Derived.Test.YtacfglopionkfaaGreatDoorArOp
import Derived.Great.BuildSlice
import Derived.Test.YtacfglopionkfaaGreatDoorKSc
import Derived.Test.YtacfglopionkfaaGreatDoorAcRn
import Derived.Test.YtacfglopionkfaaGreatDoorKPa
import Derived.Test.YtacfglopionkfaaGreatDoorKSn
import Derived.Test.YtacfglopionkfaaGreatDoorKVj
import Derived.Test.YtacfglopionkfaaGreatDoorKO
import Derived.Test.YtacfglopionkfaaGreatDoorRows
namespace Go.Proofs.YtacfglopionkfaaGreatDoor
set_option maxRecDepth 100000
open Go.RowKit Go.WideMaps Go.Maps
structure Zy (LV M:Vl):Prop where
 F9:M.lS
 E8: ∀x∈M,x.2.size≤9223372036854775807
 len:M.length≤40
theorem Zq {LV:Vl} (hsz: ∀x∈LV,x.1.size≤maxLen∧x.2.size≤maxLen):Zy LV (dD (LV.take 40)):=
 ⟨Ie _,fun x hx=>by have h1:=(hsz x (List.mem_of_mem_take (Ib hx).1)).2;unfold maxLen at h1;omega,by have h1:=yT (LV.take 40);have h2:=List.length_take_le 40 LV;omega⟩
theorem kJ.vars {X X':World} {vb N:Nat} {mo:Option Nat} {M:Vl} (hva:aZ X vb mo N M) (hb:But (VB vb mo) X X'): ∀{l:List (Bool × Int)} {v r:Value},kJ X l v r→kJ X' l v r
 | [],_,_,h=>h
 | (_,_)::_,_,_,⟨k,x,hv,hk,hl⟩=>⟨k,x,hv,(hb.block k (lt_of_heap hk) (by
   rintro (rfl | e)
   ·have h1:=hva.blk
    rw [hk] at h1
    simp at h1
   ·obtain ⟨D,⟨es,clock,h1,_⟩,_⟩:=hva.own k e.symm
    rw [hk] at h1
    cases h1)).trans hk,kJ.vars hva hb hl⟩
def DN (s:Nat→Addr) (w:World) (er:Value) (c p g:Int):Prop:=
 (er= .nilIface∧c=0∧p=0∧g=0)∨ ∃cn pn:Nat,ErrAt w s cn pn er∧1≤cn∧cn≤21∧c=cn∧p=pn∧g=1
theorem DN.below {s:Nat→Addr} {w w':World} {er:Value} {c p g:Int} (h:DN s w er c p g) (hb:Below w.heap.size w w'):DN s w' er c p g:=
 h.imp id fun ⟨cn,pn,h1,h2⟩=>⟨cn,pn,kJ.below hb h1,h2⟩
theorem DN.vars {s:Nat→Addr} {w w':World} {er:Value} {c p g:Int} {vb N:Nat} {mo:Option Nat} {M:Vl} (h:DN s w er c p g) (hva:aZ w vb mo N M) (hb:But (VB vb mo) w w'):DN s w' er c p g:=
 h.imp id fun ⟨cn,pn,h1,h2⟩=>⟨cn,pn,kJ.vars hva hb h1,h2⟩
theorem DN.tell {s:Nat→Addr} {w:World} {er:Value} {c p g:Int} (h:DN s w er c p g) (hs:o7 w s):Calls Tryz.prog 11 #[er] w fun e w'=>e= .returned (.agg #[.int .i64 c,.int .i64 p,.int .i64 g])∧Below w.heap.size w w':=by
 rcases h with ⟨rfl,rfl,rfl,rfl⟩ | ⟨cn,pn,h1,h2,h3,rfl,rfl,rfl⟩
 ·exact KG w
 ·exact KH s cn pn er w hs h1 h2 h3
structure Xi (s:Nat→Addr) (w:World) (vb N:Nat) (mo:Option Nat) (x c p g:Int) (L:Vl) (e:Ending) (w':World):Prop where
 val: ∃er,e= .returned (.tuple #[.int .i64 x,er])∧DN s w' er c p g
 bu:But (VB vb mo) w w'
 va: ∃jq N',aZ w' vb jq N' L∧N'≤N+2000∧(jq=mo∨(mo=none∧ ∃b,jq=some b∧w.heap.size≤b))
theorem But.since {w0 X Y:World} {vb:Nat} {mo:Option Nat} (h:But (VB vb mo) X Y) (hX:Below w0.heap.size w0 X) (hv:w0.heap.size≤vb) (hm: ∀mb,mo=some mb→w0.heap.size≤mb):Below w0.heap.size w0 Y:=
 hX.trans (h.below hX.size (by
  rintro i hi (e | e)
  ·omega
  ·have:=hm i e.symm;omega))
theorem Hy (b:List Int): ∃n r,n≤100000∧cZ b n=some r:=by
 by_cases h:1024<b.length
 ·refine ⟨0,.bad 2 0,by omega,?_⟩
  unfold cZ
  rw [if_pos h]
 ·obtain ⟨r,hr⟩:=CS b
  exact ⟨_,r,by omega,hr⟩
def Rv.xv:Rv→Int
 | .ok x _=>x
 | _=>0
def Rv.cv:Rv→Int
 | .bad c _=>c
 | _=>0
def Rv.pv:Rv→Int
 | .bad _ p=>p
 | _=>0
def Rv.gv:Rv→Int
 | .bad _ _=>1
 | _=>0
theorem J6 {X w':World} {vb N:Nat} {mo:Option Nat} {M:Vl} {rv:Rv} {s:Nat→Addr} {e:Ending} (hq:ZX X vb N mo M s rv e w') (hc: ∀c p,rv= .bad c p→1≤c∧c≤21):
  Xi s X vb N mo rv.xv rv.cv rv.pv rv.gv (Nk rv M) e w':=by
 obtain ⟨h1,h2,h3⟩:=hq
 refine ⟨?_,h2,h3⟩
 cases rv with
 | ok x e'=>
  obtain rfl:e= .returned (.tuple #[.int .i64 x,.nilIface]):=h1
  exact ⟨_,rfl,Or.inl ⟨rfl,rfl,rfl,rfl⟩⟩
 | bad c p=>
  obtain ⟨pv,rfl,her⟩:=h1
  obtain ⟨c1,c2⟩:=hc c p rfl
  exact ⟨_,rfl,Or.inr ⟨c,p,her,c1,c2,rfl,rfl,rfl⟩⟩
 | no=>exact h1.elim
end Go.Proofs.YtacfglopionkfaaGreatDoor
namespace Go.Proofs.YtacfglopionkfaaGreatDoor
set_option maxRecDepth 100000
open Go.RowKit Go.WideMaps Go.Maps
structure NK (M:Vl) (str:ByteArray) (rv:Rv):Prop where
 E8:str.size≤1024
 rd: ∃n t k,cZ (bT str) n=some (.ok t k)∧ev (dY M) t []=rv
theorem U3 {str:ByteArray} {X:List Int} (h:bT str=X) (hl:X.length≤1024):str.size≤1024:=by
 have:=bC str
 rw [h] at this
 omega
theorem opd_in {b:List Int} {n:Nat} {e:Tr} {t:Tk} (hp:cZ b n=some (.ok e t)) {P:Tr→Prop} (hP: ∀k,P (e.sh k)):TF (40::(b++[41])) P:=
 (opd_par hp).weak (by rintro x ⟨k,rfl⟩;exact hP k)
section
variable {M:Vl} {nm:ByteArray} {b:List Int} {n:Nat} {e:Tr} {t:Tk}
theorem set_bys (hb:nN b):bT (nm++⟨#[32,61,32]⟩++Yq b)=bT nm++([32]++(bT ⟨#[61]⟩++(32::(40::(b++[41]))))):=by
 rw [yw,yw,XP hb]
 simp [bT]
theorem txt_set (hn:uo nm) (hs:nm.size≤100) (hb:nN b) (hl:b.length≤300) (hp:cZ b n=some (.ok e t)) {P:Tr→Prop} (hP: ∀k,P (e.sh k)):
  ∃q ex,P ex∧NK M (nm++⟨#[32,61,32]⟩++Yq b) (ev (dY M) (.eF ⟨#[61]⟩ nm 0 q ex) []):=by
 have hlen:(bT nm++([32]++(bT ⟨#[61]⟩++(32::(40::(b++[41])))))).length≤1024:=by
  have h1:=bC nm
  have h2:(bT ⟨#[61]⟩).length=1:=by decide
  simp only [List.length_append,List.length_cons,List.length_nil]
  omega
 obtain ⟨m,q,ex,tk,hex,hpp⟩:=WR hn (opd_sp (opd_in hp hP)) (s:=⟨#[61]⟩) (kQ (by decide)) (by decide) (B:=[32]) (Or.inr rfl) hlen
 exact ⟨q,ex,hex,U3 (set_bys hb) hlen,m,_,tk,by rw [set_bys hb];exact hpp,rfl⟩
theorem txt_ok (hn:uo nm) (hs:nm.size≤100) (hb:nN b) (hl:b.length≤300) (hp:cZ b n=some (.ok e t)) {x:Int} (hw: ∀k,ev (dY M) (e.sh k) []= .ok x []):NK M (nm++⟨#[32,61,32]⟩++Yq b) (.ok x [(nm,x)]):=by
 obtain ⟨q,ex,hex,h⟩:=txt_set (M:=M) hn hs hb hl hp (P:=fun ex=>ev (dY M) ex []= .ok x []) hw
 rw [ev_asgE hex] at h
 exact h
theorem txt_no (hn:uo nm) (hs:nm.size≤100) (hb:nN b) (hl:b.length≤300) (hp:cZ b n=some (.ok e t)) (hw: ∀k,∃c p,ev (dY M) (e.sh k) []= .bad c p): ∃c p,NK M (nm++⟨#[32,61,32]⟩++Yq b) (.bad c p):=by
 obtain ⟨q,ex,⟨c,p,hex⟩,h⟩:=txt_set (M:=M) hn hs hb hl hp (P:=fun ex=> ∃c p,ev (dY M) ex []= .bad c p) hw
 rw [ev_asgB hex] at h
 exact ⟨c,p,h⟩
theorem one_bys {op:ByteArray} (hb:nN b):bT (nm++op++⟨#[61]⟩++Yq b)=bT nm++([]++(bT (op++(⟨#[61]⟩:ByteArray))++(40::(b++[41])))):=by
 rw [yw,yw,yw,XP hb,yw]
 simp
theorem two_bys {op:ByteArray} (hb:nN b):bT (nm++⟨#[61]⟩++nm++op++Yq b)=bT nm++(bT ⟨#[61]⟩++(bT nm++(bT op++(40::(b++[41]))))):=by
 rw [yw,yw,yw,yw,XP hb]
 simp
theorem txt_ten (hn:uo nm) (hs:nm.size≤100) (hb:nN b) (hl:b.length≤300) (hp:cZ b n=some (.ok e t)) {x:Int} (hw: ∀k,ev (dY M) (e.sh k) []= .ok x []) {op:ByteArray} (hop:op∈tenL):
  ∃r1 r2,NK M (nm++op++⟨#[61]⟩++Yq b) r1∧NK M (nm++⟨#[61]⟩++nm++op++Yq b) r2∧Alk nm r1 r2:=by
 obtain ⟨f1,f2,f3,f4,f5,f6,f7,f8,f9⟩:=aaW op hop
 have h0:=bC nm
 have h2:(bT ⟨#[61]⟩).length=1:=by decide
 have h3:=bC op
 have hl1:(bT nm++([]++(bT (op++(⟨#[61]⟩:ByteArray))++(40::(b++[41]))))).length≤1024:=by
  rw [yw]
  simp only [List.length_append,List.length_cons,List.length_nil]
  omega
 have hl2:(bT nm++(bT ⟨#[61]⟩++(bT nm++(bT op++(40::(b++[41])))))).length≤1024:=by
  simp only [List.length_append,List.length_cons,List.length_nil]
  omega
 have hX:=opd_in hp (P:=fun ex=>ev (dY M) ex []= .ok x []) hw
 obtain ⟨m1,q,ex,tk1,hex,hp1⟩:=WR hn hX (any_mem f1) f2 (B:=[]) (Or.inl rfl) hl1
 obtain ⟨m2,q1,p2,q2,ex2,tk2,hex2,hp2⟩:=aaY hn hX f8 hl2
 exact ⟨_,_,⟨U3 (one_bys hb) hl1,m1,_,tk1,by rw [one_bys hb];exact hp1,rfl⟩,⟨U3 (two_bys hb) hl2,m2,_,tk2,by rw [two_bys hb];exact hp2,rfl⟩,ev_both f3 f4 (any_mem f5) f6 f7 hex hex2 q q1 q2 p2⟩
end
theorem aaU (w:World) (str:ByteArray) (hs:str.size≤9223372036854775807): ∃z cap W1,(convert 9 22 (.string str)).run Tryz.prog w= .ok (.slice (some ⟨w.heap.size,0,none⟩) z cap) W1∧Sl W1 (.slice (some ⟨w.heap.size,0,none⟩) z cap) (bT str)∧Below w.heap.size w W1:=by
 obtain ⟨c,W,h⟩:=mZ w str hs
 exact ⟨_,c,W,h⟩
theorem LZ {w0:World} {s:Nat→Addr} (hs:o7 w0 s) (hT:TP w0) {M:Vl} (hz: ∀x∈M,x.2.size≤9223372036854775807) {str:ByteArray} {rv:Rv} (h:NK M str rv) {X:World} {vb N:Nat} {mo:Option Nat} {v:Value} (hX:Below w0.heap.size w0 X) (hv:w0.heap.size≤vb) (hm: ∀mb,mo=some mb→w0.heap.size≤mb) (hva:aZ X vb mo N M) (hN:N≤1000000) (hsl:Sl X v (bT str)):
  Calls Tryz.prog 24 #[v,.pointer (some ⟨vb,0,none⟩)] X (ZX X vb N mo M s rv):=by
 obtain ⟨n,t,k,hp,hev⟩:=h.rd
 exact Nh v (bT str) n t k vb N mo M X s hp hsl.1 hsl (hs.er.below hX) hva hz (fun Y hY=>hT.below (hY.since hX hv hm)) hN rv hev
theorem ten_both {w0:World} {s:Nat→Addr} (hs:o7 w0 s) (hT:TP w0) {M:Vl} (hz: ∀x∈M,x.2.size≤9223372036854775807) (hml:M.length≤40) {nm s1 s2:ByteArray} {r1 r2:Rv} (h1:NK M s1 r1) (h2:NK M s2 r2) (ha:Alk nm r1 r2):
  ∃(x c p p' g:Int) (LL:Vl),LL.length≤100∧
   (∀X vb N mo v,Below w0.heap.size w0 X→w0.heap.size≤vb→(∀mb,mo=some mb→w0.heap.size≤mb)→aZ X vb mo N M→N≤1000000→Sl X v (bT s1)→Calls Tryz.prog 24 #[v,.pointer (some ⟨vb,0,none⟩)] X (Xi s X vb N mo x c p g LL))∧
   (∀X vb N mo v,Below w0.heap.size w0 X→w0.heap.size≤vb→(∀mb,mo=some mb→w0.heap.size≤mb)→aZ X vb mo N M→N≤1000000→Sl X v (bT s2)→Calls Tryz.prog 24 #[v,.pointer (some ⟨vb,0,none⟩)] X (Xi s X vb N mo x c p' g LL)):=by
 have hc1: ∀c p,r1= .bad c p→1≤c∧c≤21:=fun c p e=>by
  obtain ⟨n,t,k,_,hev⟩:=h1.rd
  exact jf (dY M) (fun n=>(jc _).2) t [] c p (hev.trans e)
 have hc2: ∀c p,r2= .bad c p→1≤c∧c≤21:=fun c p e=>by
  obtain ⟨n,t,k,_,hev⟩:=h2.rd
  exact jf (dY M) (fun n=>(jc _).2) t [] c p (hev.trans e)
 rcases ha with ⟨y,rfl,rfl⟩ | ⟨c,p,p',rfl,rfl⟩
 ·refine ⟨y,0,0,0,0,iK [(nm,y)] M,?_,fun X vb N mo v hX hv hm hva hN hsl=>?_,fun X vb N mo v hX hv hm hva hN hsl=>?_⟩
  ·have:=xR M [(nm,y)]
   simp only [List.length_cons,List.length_nil] at this
   omega
  ·exact (LZ hs hT hz h1 hX hv hm hva hN hsl).mono fun e w' hq=>J6 hq hc1
  ·exact (LZ hs hT hz h2 hX hv hm hva hN hsl).mono fun e w' hq=>J6 hq hc2
 ·refine ⟨0,c,p,p',1,M,by omega,fun X vb N mo v hX hv hm hva hN hsl=>?_,fun X vb N mo v hX hv hm hva hN hsl=>?_⟩
  ·exact (LZ hs hT hz h1 hX hv hm hva hN hsl).mono fun e w' hq=>J6 hq hc1
  ·exact (LZ hs hT hz h2 hX hv hm hva hN hsl).mono fun e w' hq=>J6 hq hc2
end Go.Proofs.YtacfglopionkfaaGreatDoor
namespace Go.Proofs.YtacfglopionkfaaGreatDoor
set_option maxRecDepth 100000
open Go.RowKit Go.WideMaps Go.Maps
inductive SetK (M:Vl) (nm:ByteArray) (b:List Int) (t:Tr):Prop
 | ok (x:Int) (hx:I64 x) (h1:NK M (nm++⟨#[32,61,32]⟩++Yq b) (.ok x [(nm,x)])) (h2:ev (dY M) t []= .ok x []) (h3: ∀op∈tenL,∃r1 r2,NK M (nm++op++⟨#[61]⟩++Yq b) r1∧NK M (nm++⟨#[61]⟩++nm++op++Yq b) r2∧Alk nm r1 r2)
 | no (c p c2 p2:Nat) (h1:NK M (nm++⟨#[32,61,32]⟩++Yq b) (.bad c p)) (h2:ev (dY M) t []= .bad c2 p2)
theorem set_kind (M:Vl) {nm:ByteArray} {b:List Int} {n:Nat} {t:Tr} {k:Tk} (hn:uo nm) (hs:nm.size≤100) (hb:nN b) (hl:b.length≤300) (hp:cZ b n=some (.ok t k)) (hno: ∀i,i<b.length→ ¬Zd b i):SetK M nm b t:=by
 have hna:=ZK hb hno hp
 have ho:=pV hb hp
 have hf:=iM 32768 (by decide) t ho (pW hp)
 rcases ev_either (dY M) t hna ho with ⟨x,hx⟩ | hbad
 ·have h0:=hx 0
  rw [sh_zero] at h0
  exact .ok x (Xo (dY M) (fun n=>(jc _).1) t [] x hna hf h0) (txt_ok hn hs hb hl hp hx) h0 (fun op hop=>txt_ten hn hs hb hl hp hx hop)
 ·obtain ⟨c2,p2,h0⟩:=hbad 0
  rw [sh_zero] at h0
  obtain ⟨c,p,h1⟩:=txt_no (M:=M) hn hs hb hl hp hbad
  exact .no c p c2 p2 h1 h0
def tenA:Array Value:= #[.string ⟨#[43]⟩,.string ⟨#[45]⟩,.string ⟨#[42]⟩,.string ⟨#[47]⟩,.string ⟨#[37]⟩,.string ⟨#[38]⟩,.string ⟨#[124]⟩,.string ⟨#[94]⟩,.string ⟨#[60,60]⟩,.string ⟨#[62,62]⟩]
theorem ten_at (k:Nat) (h:k<10): ∃op∈tenL,tenA[k]? =some (.string op)∧op.size≤2:=by
 rcases (by omega:k=0∨k=1∨k=2∨k=3∨k=4∨k=5∨k=6∨k=7∨k=8∨k=9) with rfl | rfl | rfl | rfl | rfl | rfl | rfl | rfl | rfl | rfl
 all_goals exact ⟨_,by simp [tenL],rfl,by decide⟩
set_option maxHeartbeats 32000000 in
theorem sets_out1 (nm:ByteArray) (bv vv:Value) (b:List Int) (LV:Vl) (s:Nat→Addr) (w:World) (hs:o7 w s) (hT:TP w) (hsl:Sl w bv b) (hv:VS w vv LV) (_hlen:LV.length≤9223372036854775807) (_hsz: ∀x∈LV,x.1.size≤maxLen∧x.2.size≤maxLen) (hnz:nm.size≤maxLen) (h1:rF nm=false):
  Calls Tryz.prog 8 #[.string nm,bv,vv] w fun e w'=>e= .returned (.bool true)∧Below w.heap.size w w':=by
 have ZR:Hid (∀X,Below w.heap.size w X→Calls Tryz.prog 23 #[] X fun e w'=>e= .returned (.bool true)∧Below X.heap.size X w'):=Lib.hid fun X hX=>uK s X (hs.er.below hX) (hT.below hX)
 have nY:=Lib.hid (sJ nm w hnz)
 rw [h1] at nY
 obtain ⟨ba,bc,rfl⟩:=lX hsl
 obtain ⟨la,lc,rfl⟩:=hv.shape
 clear hs hT hsl hv _hlen _hsz hnz h1
 generalize b.length=bn at*
 generalize LV.length=ln at*
 go_enter Tryz.func8,Tryz.ntmps8
 go_wp2_with fail
 refine nY.out.mono ?_
 rintro e X1 ⟨rfl,hb1⟩
 have HB1:=Lib.hid hb1
 clear hb1
 go_wp2_with fail
 refine (ZR.out X1 HB1.out).mono ?_
 rintro e XQ ⟨rfl,hbq⟩
 have HBQ:=Lib.hid ((HB1.out).trans (hbq.mono (HB1.out).size))
 clear hbq
 go_wp2_with fail
 go_ret
 exact ⟨rfl,HBQ.out⟩
set_option maxHeartbeats 32000000 in
theorem sets_out2 (nm:ByteArray) (bv vv:Value) (b:List Int) (LV:Vl) (s:Nat→Addr) (w:World) (hs:o7 w s) (hT:TP w) (hsl:Sl w bv b) (hv:VS w vv LV) (_hlen:LV.length≤9223372036854775807) (_hsz: ∀x∈LV,x.1.size≤maxLen∧x.2.size≤maxLen) (hnz:nm.size≤maxLen) (h1:rF nm=true) (h2: ¬nm.size≤100):
  Calls Tryz.prog 8 #[.string nm,bv,vv] w fun e w'=>e= .returned (.bool true)∧Below w.heap.size w w':=by
 have ZR:Hid (∀X,Below w.heap.size w X→Calls Tryz.prog 23 #[] X fun e w'=>e= .returned (.bool true)∧Below X.heap.size X w'):=Lib.hid fun X hX=>uK s X (hs.er.below hX) (hT.below hX)
 have nY:=Lib.hid (sJ nm w hnz)
 rw [h1] at nY
 obtain ⟨ba,bc,rfl⟩:=lX hsl
 obtain ⟨la,lc,rfl⟩:=hv.shape
 clear hs hT hsl hv _hlen _hsz hnz h1
 generalize b.length=bn at*
 generalize LV.length=ln at*
 have f1:(100:Int)<nm.size:=by omega
 clear h2
 go_enter Tryz.func8,Tryz.ntmps8
 go_wp2_with fail
 refine nY.out.mono ?_
 rintro e X1 ⟨rfl,hb1⟩
 have HB1:=Lib.hid hb1
 clear hb1
 go_wp2_with fail
 refine (ZR.out X1 HB1.out).mono ?_
 rintro e XQ ⟨rfl,hbq⟩
 have HBQ:=Lib.hid ((HB1.out).trans (hbq.mono (HB1.out).size))
 clear hbq
 go_wp2_with fail
 go_ret
 exact ⟨rfl,HBQ.out⟩
set_option maxHeartbeats 32000000 in
theorem sets_out3 (nm:ByteArray) (bv vv:Value) (b:List Int) (LV:Vl) (s:Nat→Addr) (w:World) (hs:o7 w s) (hT:TP w) (hsl:Sl w bv b) (hv:VS w vv LV) (_hlen:LV.length≤9223372036854775807) (_hsz: ∀x∈LV,x.1.size≤maxLen∧x.2.size≤maxLen) (hnz:nm.size≤maxLen) (h1:rF nm=true) (h2:nm.size≤100) (h3: ¬b.length≤300):
  Calls Tryz.prog 8 #[.string nm,bv,vv] w fun e w'=>e= .returned (.bool true)∧Below w.heap.size w w':=by
 have ZR:Hid (∀X,Below w.heap.size w X→Calls Tryz.prog 23 #[] X fun e w'=>e= .returned (.bool true)∧Below X.heap.size X w'):=Lib.hid fun X hX=>uK s X (hs.er.below hX) (hT.below hX)
 have nY:=Lib.hid (sJ nm w hnz)
 rw [h1] at nY
 obtain ⟨ba,bc,rfl⟩:=lX hsl
 obtain ⟨la,lc,rfl⟩:=hv.shape
 clear hs hT hsl hv _hlen _hsz hnz h1
 generalize b.length=bn at*
 generalize LV.length=ln at*
 have f1: ¬(100:Int)<nm.size:=by omega
 have f2:(300:Int)<bn:=by omega
 clear h2
 clear h3
 go_enter Tryz.func8,Tryz.ntmps8
 go_wp2_with fail
 refine nY.out.mono ?_
 rintro e X1 ⟨rfl,hb1⟩
 have HB1:=Lib.hid hb1
 clear hb1
 go_wp2_with fail
 refine (ZR.out X1 HB1.out).mono ?_
 rintro e XQ ⟨rfl,hbq⟩
 have HBQ:=Lib.hid ((HB1.out).trans (hbq.mono (HB1.out).size))
 clear hbq
 go_wp2_with fail
 go_ret
 exact ⟨rfl,HBQ.out⟩
set_option maxHeartbeats 32000000 in
theorem sets_in (nm:ByteArray) (bv vv:Value) (b:List Int) (LV:Vl) (s:Nat→Addr) (w:World) (hs:o7 w s) (hT:TP w) (hsl:Sl w bv b) (hv:VS w vv LV) (hlen:LV.length≤9223372036854775807) (hsz: ∀x∈LV,x.1.size≤maxLen∧x.2.size≤maxLen) (hnz:nm.size≤maxLen) (h1:rF nm=true) (h2:nm.size≤100) (h3:b.length≤300):
  Calls Tryz.prog 8 #[.string nm,bv,vv] w fun e w'=>e= .returned (.bool true)∧Below w.heap.size w w':=by
 obtain ⟨M,hM⟩: ∃M,M=dD (LV.take 40):=⟨_,rfl⟩
 have Yr:=Zq hsz
 rw [←hM] at Yr
 have HM4:=Lib.hid Yr
 obtain ⟨pn,r,hpn,hpr⟩:=Hy b
 have ZR:Hid (∀X,Below w.heap.size w X→Calls Tryz.prog 23 #[] X fun e w'=>e= .returned (.bool true)∧Below X.heap.size X w'):=Lib.hid fun X hX=>uK s X (hs.er.below hX) (hT.below hX)
 have nY:=Lib.hid (sJ nm w hnz)
 rw [h1] at nY
 have HST:Hid (∀X,Below w.heap.size w X→_):=Lib.hid (fun X hX=>sets_any bv b X (hsl.below hX))
 have Z4:Hid (∀X,Below w.heap.size w X→Calls Tryz.prog 13 #[vv] X fun e w'=> ∃vb mo vm,e= .returned (.tuple #[.pointer (some ⟨vb,0,none⟩),vm])∧FW X vb mo 40 M M vm w'):=Lib.hid fun X hX=>by rw [hM];exact LQ vv LV X (hv.below hX) hlen (fun x hx=>(hsz x hx).1)
 have HPP:Hid (∀X,Below w.heap.size w X→(∃c p,r= .bad c p∧Calls Tryz.prog 9 #[bv] X fun x w'=>(∃pv,x= .returned (.tuple #[.pointer none,.iface 89 pv]))∧Below X.heap.size X w')∨ ∃t tk,r= .ok t tk∧Calls Tryz.prog 9 #[bv] X fun x w'=>(∃E,x= .returned (.tuple #[.pointer (some ⟨E,0,none⟩),.nilIface]))∧Below X.heap.size X w'):=Lib.hid (fun X hX=>by
  cases r with
  | bad c p=>exact Or.inl ⟨c,p,rfl,(EM bv b pn c p s X hpr (hsl.below hX) (hs.er.below hX)).mono fun x w' ⟨⟨pv,e1,_⟩,e2⟩=>⟨⟨pv,e1⟩,e2⟩⟩
  | ok t tk=>exact Or.inr ⟨t,tk,rfl,(xG bv b pn t tk s X hpr (hsl.below hX) (hs.er.below hX)).mono fun x w' ⟨⟨E,e1,_⟩,e2⟩=>⟨⟨E,e1⟩,e2⟩⟩)
 have HII:Hid (∀X,Below w.heap.size w X→Calls Tryz.prog 34 #[bv] X fun e w'=>e= .returned (.string (Yq b))∧X=w'):=Lib.hid (fun X hX=>in4_any bv b X (hsl.below hX) (by omega))
 have SQ:Hid (∀t tk rv X vb N mo,r= .ok t tk→ev (dY M) t []=rv→Below w.heap.size w X→w.heap.size≤vb→(∀mb,mo=some mb→w.heap.size≤mb)→aZ X vb mo N M→N≤1000000→Calls Tryz.prog 24 #[bv,.pointer (some ⟨vb,0,none⟩)] X (ZX X vb N mo M s rv)):=Lib.hid (fun t tk rv X vb N mo hr hev hX hv hm hva hN=>by
  subst hr
  exact Nh bv b pn t tk vb N mo M X s hpr hsl.1 (hsl.below hX) (hs.er.below hX) hva Yr.E8 (fun Y hY=>hT.below (hY.since hX hv hm)) hN rv hev)
 have HET:Hid (∀str rv X vb N mo v,NK M str rv→Below w.heap.size w X→w.heap.size≤vb→(∀mb,mo=some mb→w.heap.size≤mb)→aZ X vb mo N M→N≤1000000→Sl X v (bT str)→Calls Tryz.prog 24 #[v,.pointer (some ⟨vb,0,none⟩)] X (ZX X vb N mo M s rv)):=Lib.hid (fun str rv X vb N mo v h hX hv hm hva hN hsl=>LZ hs hT Yr.E8 h hX hv hm hva hN hsl)
 have HTB:Hid (∀s1 s2 r1 r2,NK M s1 r1→NK M s2 r2→Alk nm r1 r2→_):=Lib.hid (fun s1 s2 r1 r2 h1 h2 ha=>ten_both hs hT Yr.E8 Yr.len h1 h2 ha)
 have HSK:Hid (∀t tk,r= .ok t tk→(∀i,i<b.length→ ¬Zd b i)→SetK M nm b t):=Lib.hid (fun t tk hr hno=>by
  subst hr
  exact set_kind M (nmB_ok h1) h2 hsl.1 h3 hpr hno)
 have RI:Hid (∀X,Below w.heap.size w X→o7 X s):=Lib.hid fun X hX=>hs.below hX
 have HPZ:=Lib.hid (inP_size b)
 obtain ⟨ba,bc,rfl⟩:=lX hsl
 obtain ⟨la,lc,rfl⟩:=hv.shape
 clear hs hT hsl hv hlen hsz hnz hM Yr h1 hpn hpr
 generalize hpp:Yq b=pp at*
 have HPPB:=Lib.hid hpp
 generalize hbn:b.length=bn at*
 have Jt:=Lib.hid hbn
 generalize LV.length=ln at*
 have f1: ¬(100:Int)<nm.size:=by omega
 have f2: ¬(300:Int)<bn:=by omega
 have NH:=Lib.hid h2
 have HH3:=Lib.hid h3
 clear h2 h3 hbn hpp
 go_enter Tryz.func8,Tryz.ntmps8
 go_wp2_with fail
 refine nY.out.mono ?_
 rintro e X1 ⟨rfl,hb1⟩
 have HB1:=Lib.hid hb1
 clear hb1
 go_wp2_with fail
 all_goals try (exfalso;omega)
 refine (HST.out X1 HB1.out).mono ?_
 rintro e X2 ⟨⟨qq,rfl,hqq⟩,hb2⟩
 have HB2:=Lib.hid (HB1.out.trans (hb2.mono HB1.out.size))
 have HQQ:=Lib.hid hqq
 clear hb2 hqq HST HB1
 cases qq with
 | true=>
  go_wp2_with fail
  refine (ZR.out X2 HB2.out).mono ?_
  rintro e XQ ⟨rfl,hbq⟩
  have HBQ:=Lib.hid ((HB2.out).trans (hbq.mono (HB2.out).size))
  clear hbq
  go_wp2_with fail
  go_ret
  exact ⟨rfl,HBQ.out⟩
 | false=>
  rcases HPP.out X2 HB2.out with ⟨cP,pP,hr,hcall⟩ | ⟨t,tk,hr,hcall⟩
  ·have Gm:=Lib.hid hcall
   clear hr hcall
   go_wp2_with fail
   refine Gm.out.mono ?_
   rintro e X3 ⟨⟨pv,rfl⟩,hb3⟩
   have HB3:=Lib.hid (HB2.out.trans (hb3.mono HB2.out.size))
   clear hb3 Gm
   go_wp2_with fail
   refine (ZR.out X3 HB3.out).mono ?_
   rintro e XQ ⟨rfl,hbq⟩
   have HBQ:=Lib.hid ((HB3.out).trans (hbq.mono (HB3.out).size))
   clear hbq
   go_wp2_with fail
   go_ret
   exact ⟨rfl,HBQ.out⟩
  ·have HR:=Lib.hid hr
   have Gm:=Lib.hid hcall
   have HSQ:=Lib.hid (HSK.out t tk hr (by rw [←Jt.out];exact HQQ.out rfl))
   clear hr hcall
   go_wp2_with fail
   refine Gm.out.mono ?_
   rintro e X3 ⟨⟨E,rfl⟩,hb3⟩
   have HB3:=Lib.hid (HB2.out.trans (hb3.mono HB2.out.size))
   clear hb3 Gm HB2 HPP HSK HQQ
   go_wp2_with fail
   refine (Z4.out X3 HB3.out).mono ?_
   rintro e X0 ⟨vb,mo,vm,rfl,hi⟩
   obtain ⟨va,vc,rfl⟩:=dW hi.row
   have Gg:=Lib.hid hi.va
   have HVS:=Lib.hid (VS.xJ hi.row)
   have HB0:=Lib.hid (HB3.out.trans (hi.bel.mono HB3.out.size))
   have ZP:Hid (M.length≤40):=Lib.hid HM4.out.len
   have HYW:Hid (∀Y,Below X0.heap.size X0 Y→Below w.heap.size w Y):=Lib.hid fun Y hY=>HB0.out.trans (hY.mono HB0.out.size)
   have VO:=Lib.hid HB0.out.size
   clear hi HB3 Z4 HM4
   go_wp2_with fail
   refine (Qj vb 40 mo M X0 Gg.out).mono ?_
   rintro e Y1 ⟨⟨c1,o1,rfl,hc1,ho1,hv1⟩,hb1⟩
   have ou:=Lib.hid hc1
   have HO1:=Lib.hid ho1
   have Gf:=Lib.hid hv1
   have HY1:=Lib.hid hb1
   clear hc1 ho1 hv1 hb1
   go_wp2_with fail
   refine (Qj vb 40 mo M Y1 (Gg.out.below HY1.out)).mono ?_
   rintro e Y2 ⟨⟨c2,o2,rfl,hc2,ho2,hv2⟩,hb2⟩
   have HC2:=Lib.hid hc2
   have Ai:=Lib.hid ho2
   have NC:=Lib.hid hv2
   have HY2:=Lib.hid (HY1.out.trans (hb2.mono HY1.out.size))
   have HV12:=Lib.hid (Gf.out.below hb2)
   have WZ:Hid (c1<Y1.heap.size∧ ∀mb,o1=some mb→mb<Y1.heap.size):=Lib.hid ⟨Gf.out.lt,fun mb e=>Gf.out.VI e⟩
   have HL2:Hid (c2<Y2.heap.size∧ ∀mb,o2=some mb→mb<Y2.heap.size):=Lib.hid ⟨NC.out.lt,fun mb e=>NC.out.VI e⟩
   have TJ:=Lib.hid HY1.out.size
   clear hc2 ho2 hv2 hb2 Gf
   have g1:(nm++⟨#[32,61,32]⟩:ByteArray).size=nm.size+3:=by rw [ByteArray.size_append];rfl
   have g2:=NH.out
   go_wp2_with fail
   all_goals try (exfalso;omega)
   refine (HII.out Y2 (HYW.out Y2 HY2.out)).mono ?_
   rintro e _ ⟨rfl,rfl⟩
   have g3:=HPZ.out
   have g4:=HH3.out
   obtain ⟨yz1,z1,W1,hcv,hsl1,hbw⟩:=aaU Y2 (nm++⟨#[32,61,32]⟩++pp) (by rw [ByteArray.size_append,g1];omega)
   have HSL:=Lib.hid hsl1
   have Jm:=Lib.hid hbw
   clear hsl1 hbw
   go_wp2_with fail
   all_goals try (exfalso;omega)
   clear hcv g1 g2 g3 g4
   have HYB:=Lib.hid (HY2.out.trans (Jm.out.mono HY2.out.size))
   have HW1:=Lib.hid (HV12.out.below Jm.out)
   have HW2:=Lib.hid (NC.out.below Jm.out)
   have Yu:=Lib.hid Jm.out.size
   clear HV12 NC
   rcases HSQ.out with ⟨x,hx,k1,k2,k3⟩ | ⟨cc,pc,cd,pd,k1,k2⟩
   ·have HX:=Lib.hid hx
    rw [HPPB.out] at k1
    simp only [HPPB.out] at k3
    have HK3:=Lib.hid k3
    have HK1:=Lib.hid k1
    have ZQ:=Lib.hid k2
    clear hx k1 k2 k3 HSQ
    refine (HET.out _ (.ok x [(nm,x)]) W1 c1 40 o1 _ HK1.out (HYW.out W1 HYB.out) (by have h1:=ou.out;have h2:=VO.out;omega) (fun mb e=>by have h1:=HO1.out mb e;have h2:=VO.out;omega) HW1.out (by omega) HSL.out).mono ?_
    rintro e Y3 ⟨hval,hbu,m3,N3,hv3,hN3,YA⟩
    obtain rfl:e= .returned (.tuple #[.int .i64 x,.nilIface]):=hval
    have HY3:Hid (Below X0.heap.size X0 Y3):=Lib.hid (hbu.since HYB.out ou.out HO1.out)
    have HP3:Hid (aZ Y3 c1 m3 N3 (iw nm (gW x) M)):=Lib.hid hv3
    have HP2:Hid (aZ Y3 c2 o2 40 M):=Lib.hid (HW2.out.but hbu (by
     have h1:=HC2.out;have h2:=WZ.out.1
     rintro (h | h)
     ·omega
     ·have:=WZ.out.2 _ h.symm;omega) (by
     intro mb e
     have h1:=Ai.out mb e;have h2:=WZ.out.1
     rintro (h | h)
     ·omega
     ·have:=WZ.out.2 _ h.symm;omega))
    have HM3:Hid (∀mb,m3=some mb→(mb<Y1.heap.size∨Y2.heap.size≤mb)):=Lib.hid (fun mb e=>by
     rcases YA with rfl | ⟨_,b',e',hlt⟩
     ·exact Or.inl (WZ.out.2 mb e)
     ·rw [e'] at e;have h1:=Option.some.inj e;have h2:=Yu.out;exact Or.inr (by omega))
    have SH:Hid (N3≤3000):=Lib.hid (by omega)
    clear hbu hv3 hN3 YA HW1 HW2 HSL
    go_wp2_with fail
    refine (SQ.out t tk (.ok x []) Y3 c2 40 o2 HR.out ZQ.out (HYW.out Y3 HY3.out) (by have h1:=HC2.out;have h2:=VO.out;have h3:=TJ.out;omega) (fun mb e=>by have h1:=Ai.out mb e;have h2:=VO.out;have h3:=TJ.out;omega) HP2.out (by omega)).mono ?_
    rintro e Y4 ⟨hval,hbu,m4,N4,hv4,hN4,_⟩
    obtain rfl:e= .returned (.tuple #[.int .i64 x,.nilIface]):=hval
    have HY4:Hid (Below X0.heap.size X0 Y4):=Lib.hid (hbu.since HY3.out (by have h1:=HC2.out;have h3:=TJ.out;omega) (fun mb e=>by have h1:=Ai.out mb e;have h3:=TJ.out;omega))
    have HQ2:Hid (aZ Y4 c2 m4 N4 M):=Lib.hid hv4
    have rH:=Lib.hid (HP3.out.but hbu (by
     have h1:=HC2.out;have h2:=WZ.out.1
     rintro (h | h)
     ·omega
     ·have:=Ai.out _ h.symm;omega) (by
     intro mb e
     have h1:=HM3.out mb e;have h2:=HC2.out;have h3:=HL2.out.1;have h4:=TJ.out
     rintro (h | h)
     ·omega
     ·have:=Ai.out _ h.symm;have:=HL2.out.2 _ h.symm;omega))
    have HN4:Hid (N4≤3000):=Lib.hid (by omega)
    clear hbu hv4 hN4 HP2 HP3
    go_wp2_with fail
    refine (uT c2 N4 m4 M Y4 HQ2.out (by have:=HN4.out;omega) (by have:=ZP.out;omega)).mono ?_
    rintro e Y5 ⟨⟨v5,rfl,hv5⟩,hb⟩
    have HY5:=Lib.hid (HY4.out.trans (hb.mono HY4.out.size))
    have HV5:=Lib.hid hv5
    have HQ15:=Lib.hid (rH.out.below hb)
    obtain ⟨a5,d5,rfl⟩:=hv5.shape
    clear hb hv5 rH HQ2
    go_wp2_with fail
    refine (xU _ _ M Y5 HV5.out (HVS.out.below HY5.out) (by have:=ZP.out;omega)).mono ?_
    rintro e Y6 ⟨rfl,hb⟩
    have HY6:=Lib.hid (HY5.out.trans (hb.mono HY5.out.size))
    have HQ16:=Lib.hid (HQ15.out.below hb)
    clear hb HV5 HQ15
    have HMS:Hid ((iw nm (gW x) M).length≤1000):=Lib.hid (by have h1:=uN nm (gW x) M false;have h2:=ZP.out;unfold iw;omega)
    go_wp2_with fail
    refine (uT c1 N3 m3 (iw nm (gW x) M) Y6 HQ16.out (by have:=SH.out;omega) (by have:=HMS.out;omega)).mono ?_
    rintro e Y7 ⟨⟨v7,rfl,hv7⟩,hb⟩
    have HY7:=Lib.hid (HY6.out.trans (hb.mono HY6.out.size))
    have HV7:=Lib.hid hv7
    obtain ⟨a7,d7,rfl⟩:=hv7.shape
    clear hb hv7 HQ16
    go_wp2_with fail
    refine (I7 x Y7 HX.out).mono ?_
    rintro e Y8 ⟨rfl,hb⟩
    have HY8:=Lib.hid (HY7.out.trans (hb.mono HY7.out.size))
    have HV8:=Lib.hid (HV7.out.below hb)
    clear hb HV7
    go_wp2_with fail
    refine (Ba _ M nm (gW x) Y8 (HVS.out.below HY8.out) (by have:=ZP.out;omega)).mono ?_
    rintro e Y9 ⟨v9,rfl,ho9,hb⟩
    obtain ⟨a9,d9,rfl⟩:=dW ho9
    have HY9:=Lib.hid (HY8.out.trans (hb.mono HY8.out.size))
    have HV9:=Lib.hid (HV8.out.below hb)
    have HO9:=Lib.hid (VS.xJ ho9)
    clear hb ho9 HV8
    go_wp2_with fail
    refine (xU _ _ (iw nm (gW x) M) Y9 HV9.out HO9.out (by have:=HMS.out;omega)).mono ?_
    rintro e Z0 ⟨rfl,hb⟩
    have HZ0:=Lib.hid (HY9.out.trans (hb.mono HY9.out.size))
    clear hb HV9 HO9
    go_upto_region 17 with fail
    obtain ⟨W0,hW0⟩: ∃W0,W0=Z0.alloc (.cells tenA 9):=⟨_,rfl⟩
    have HT:Hid (W0.heap[Z0.heap.size]? =some (.cells tenA 9 (0,0))):=Lib.hid (by rw [hW0];exact heap_alloc_last Z0 _)
    have HBZ:Hid (Below X0.heap.size X0 W0):=Lib.hid (by rw [hW0];exact HZ0.out.alloc HZ0.out.size _)
    unfold tenA at hW0
    rw [←hW0]
    clear hW0 HZ0 HY9 HY8 HY7 HY6 HY5 HY4 HY3 HY2 HY1 HYB Jm
    have HTW:Hid (∀X,Below W0.heap.size W0 X→ ∀(k:Nat) (op:ByteArray),tenA[k]? =some (.string op)→X.cell? ⟨Z0.heap.size,k,none⟩=some (.string op)):=Lib.hid fun X hX k op hop=>(World.cell?_of_block (w:=W0) (a:=⟨Z0.heap.size,k,none⟩) (hX.block _ (lt_of_heap HT.out))).trans ((Lib.cell_of_heap HT.out k).trans hop)
    generalize Z0.heap.size=tb at*
    have HVW:=Lib.hid (Gg.out.below HBZ.out)
    have HWW:Hid (∀Y,Below W0.heap.size W0 Y→Below w.heap.size w Y):=Lib.hid fun Y hY=>HYW.out Y (HBZ.out.trans (hY.mono HBZ.out.size))
    have HSZW:Hid (w.heap.size≤W0.heap.size):=Lib.hid (Nat.le_trans VO.out HBZ.out.size)
    clear HT HVS Gg HYW HBZ WZ HL2 ou HC2 HO1 Ai TJ VO Yu HM3 SH HN4 HMS HX HK1 ZQ SQ HET
    go_wp2_with fail
    go_loopw [115] (fun i9 X=> ∃k:Nat,i9= .int .i64 (k:Nat)∧k≤10∧Below W0.heap.size W0 X) (fun i9 _=>10 - (intOf i9).toNat)
    case atStart=>exact ⟨0,rfl,by omega,Below.refl _ _⟩
    case round=>
     obtain ⟨k,rfl,hk,hb⟩:=hrel
     have HB:=Lib.hid hb
     clear hb
     by_cases hlt:k<10
     ·have uF:(k:Int)<10:=by omega
      have HK:=Lib.hid hlt
      obtain ⟨op,hop,hat,hos⟩:=ten_at k hlt
      obtain ⟨r1,r2,t1,t2,hal⟩:=HK3.out op hop
      obtain ⟨xv,cv,p1,p2,gv,LL,hLL,hE1,hE2⟩:=HTB.out _ _ r1 r2 t1 t2 hal
      have HE1:=Lib.hid hE1
      have HE2:=Lib.hid hE2
      have HLL:=Lib.hid hLL
      have HOS:=Lib.hid hos
      have c0:=HTW.out wr HB.out k op hat
      clear hop hat hos t1 t2 hal hLL hE1 hE2
      go_wp2_with fail
      refine (Qj vb 40 mo M wr (HVW.out.below HB.out)).mono ?_
      rintro e A1 ⟨⟨c3,o3,rfl,hc1,ho1,hv1⟩,hb1⟩
      have Na:Hid (W0.heap.size≤c3):=Lib.hid (Nat.le_trans HB.out.size hc1)
      have HO3:Hid (∀mb,o3=some mb→W0.heap.size≤mb):=Lib.hid fun mb e=>Nat.le_trans HB.out.size (ho1 mb e)
      have Nr:=Lib.hid hv1
      have HA1:=Lib.hid (HB.out.trans (hb1.mono HB.out.size))
      clear hc1 ho1 hv1 hb1 c0
      go_wp2_with fail
      refine (Qj vb 40 mo M A1 (HVW.out.below HA1.out)).mono ?_
      rintro e A2 ⟨⟨c4,o4,rfl,hc2,ho2,hv2⟩,hb2⟩
      have Aq:=Lib.hid hc2
      have HO4:=Lib.hid ho2
      have HV4:=Lib.hid hv2
      have HA2:=Lib.hid (HA1.out.trans (hb2.mono HA1.out.size))
      have HV32:=Lib.hid (Nr.out.below hb2)
      have HL3:Hid (c3<A1.heap.size∧ ∀mb,o3=some mb→mb<A1.heap.size):=Lib.hid ⟨Nr.out.lt,fun mb e=>Nr.out.VI e⟩
      have HL4:Hid (c4<A2.heap.size∧ ∀mb,o4=some mb→mb<A2.heap.size):=Lib.hid ⟨HV4.out.lt,fun mb e=>HV4.out.VI e⟩
      have ND:=Lib.hid HA1.out.size
      clear hc2 ho2 hv2 hb2 Nr
      have g0:=NH.out
      have g9:=HOS.out
      have g1:(nm++op:ByteArray).size=nm.size+op.size:=ByteArray.size_append
      have g2:(nm++op++⟨#[61]⟩:ByteArray).size=nm.size+op.size+1:=by rw [ByteArray.size_append,g1];rfl
      go_wp2_with fail
      all_goals try (exfalso;omega)
      refine (HII.out A2 (HWW.out A2 HA2.out)).mono ?_
      rintro e _ ⟨rfl,rfl⟩
      have g3:=HPZ.out
      have g4:=HH3.out
      obtain ⟨yz1,z1,W1,hcv,hsl1,hbw⟩:=aaU A2 (nm++op++⟨#[61]⟩++pp) (by rw [ByteArray.size_append,g2];omega)
      have HSL:=Lib.hid hsl1
      have Jm:=Lib.hid hbw
      clear hsl1 hbw
      go_wp2_with fail
      all_goals try (exfalso;omega)
      clear hcv g0 g1 g2 g3 g4 g9
      have HYB:=Lib.hid (HA2.out.trans (Jm.out.mono HA2.out.size))
      have HW3:=Lib.hid (HV32.out.below Jm.out)
      have HW4:=Lib.hid (HV4.out.below Jm.out)
      have Yu:=Lib.hid Jm.out.size
      clear HV32 HV4
      refine (HE1.out W1 c3 40 o3 _ (HWW.out W1 HYB.out) (by have h1:=Na.out;have h2:=HSZW.out;omega) (fun mb e=>by have h1:=HO3.out mb e;have h2:=HSZW.out;omega) HW3.out (by omega) HSL.out).mono ?_
      rintro e A3 ⟨⟨er1,rfl,htl⟩,hbu,m3,N3,hv3,hN3,YA⟩
      have HA3:Hid (Below W0.heap.size W0 A3):=Lib.hid (hbu.since HYB.out Na.out HO3.out)
      have HP3:Hid (aZ A3 c3 m3 N3 LL):=Lib.hid hv3
      have HP4:Hid (aZ A3 c4 o4 40 M):=Lib.hid (HW4.out.but hbu (by
       have h1:=Aq.out;have h2:=HL3.out.1
       rintro (h | h)
       ·omega
       ·have:=HL3.out.2 _ h.symm;omega) (by
       intro mb e
       have h1:=HO4.out mb e;have h2:=HL3.out.1
       rintro (h | h)
       ·omega
       ·have:=HL3.out.2 _ h.symm;omega))
      have HM3:Hid (∀mb,m3=some mb→(mb<A1.heap.size∨A2.heap.size≤mb)):=Lib.hid (fun mb e=>by
       rcases YA with rfl | ⟨_,b',e',hlt⟩
       ·exact Or.inl (HL3.out.2 mb e)
       ·rw [e'] at e;have h1:=Option.some.inj e;have h2:=Yu.out;exact Or.inr (by omega))
      have SH:Hid (N3≤3000):=Lib.hid (by omega)
      have HTL:=Lib.hid htl
      clear htl hbu hv3 hN3 YA HW3 HW4 HSL Yu Jm HYB HE1
      have g0:=NH.out
      have g9:=HOS.out
      have g1:(nm++⟨#[61]⟩:ByteArray).size=nm.size+1:=by rw [ByteArray.size_append];rfl
      have g2:(nm++⟨#[61]⟩++nm:ByteArray).size=nm.size+nm.size+1:=by rw [ByteArray.size_append,g1];omega
      have g5:(nm++⟨#[61]⟩++nm++op:ByteArray).size=nm.size+nm.size+1+op.size:=by rw [ByteArray.size_append,g2]
      go_wp2_with fail
      all_goals try (exfalso;omega)
      refine (HII.out A3 (HWW.out A3 HA3.out)).mono ?_
      rintro e _ ⟨rfl,rfl⟩
      have g3:=HPZ.out
      have g4:=HH3.out
      obtain ⟨yz2,z2,W2,hcv,hsl1,hbw⟩:=aaU A3 (nm++⟨#[61]⟩++nm++op++pp) (by rw [ByteArray.size_append,g5];omega)
      have HSL:=Lib.hid hsl1
      have Jm:=Lib.hid hbw
      clear hsl1 hbw
      go_wp2_with fail
      all_goals try (exfalso;omega)
      clear hcv g0 g1 g2 g3 g4 g5 g9
      have HYB:=Lib.hid (HA3.out.trans (Jm.out.mono HA3.out.size))
      have HW3:=Lib.hid (HP3.out.below Jm.out)
      have HW4:=Lib.hid (HP4.out.below Jm.out)
      have HTL2:=Lib.hid (HTL.out.below Jm.out)
      clear HP3 HP4 HTL
      refine (HE2.out W2 c4 40 o4 _ (HWW.out W2 HYB.out) (by have h1:=Aq.out;have h2:=HSZW.out;have h3:=ND.out;omega) (fun mb e=>by have h1:=HO4.out mb e;have h2:=HSZW.out;have h3:=ND.out;omega) HW4.out (by omega) HSL.out).mono ?_
      rintro e A4 ⟨⟨er2,rfl,htl⟩,hbu,m4,N4,hv4,hN4,_⟩
      have HA4:Hid (Below W0.heap.size W0 A4):=Lib.hid (hbu.since HYB.out (by have h1:=Aq.out;have h3:=ND.out;omega) (fun mb e=>by have h1:=HO4.out mb e;have h3:=ND.out;omega))
      have WI:Hid (aZ A4 c4 m4 N4 LL):=Lib.hid hv4
      have Jy:=Lib.hid (HW3.out.but hbu (by
       have h1:=Aq.out;have h2:=HL3.out.1
       rintro (h | h)
       ·omega
       ·have:=HO4.out _ h.symm;omega) (by
       intro mb e
       have h1:=HM3.out mb e;have h2:=Aq.out;have h3:=HL4.out.1
       rintro (h | h)
       ·omega
       ·have:=HO4.out _ h.symm;have:=HL4.out.2 _ h.symm;omega))
      have HN4:Hid (N4≤3000):=Lib.hid (by omega)
      have HTL3:=Lib.hid (HTL2.out.vars HW4.out hbu)
      have HTM:=Lib.hid htl
      clear htl hbu hv4 hN4 HW3 HW4 HTL2 HSL Jm HYB HE2
      have qf: ∀(x y z:Int) (X:World),Sem.run Tryz.prog (Instr.field 32 (.agg #[.int .i64 x,.int .i64 y,.int .i64 z]) 0) X= .ok (.int .i64 x) X:=fun _ _ _ _=>rfl
      go_wp2_with fail
      refine (HTL3.out.tell (RI.out A4 (HWW.out A4 HA4.out))).mono ?_
      rintro e A5 ⟨rfl,hb⟩
      have HA5:=Lib.hid (HA4.out.trans (hb.mono HA4.out.size))
      have HTM5:=Lib.hid (HTM.out.below hb)
      have HQ35:=Lib.hid (Jy.out.below hb)
      have HQ45:=Lib.hid (WI.out.below hb)
      clear hb HTL3 HTM Jy WI
      go_wp2_with fail
      refine (HTM5.out.tell (RI.out A5 (HWW.out A5 HA5.out))).mono ?_
      rintro e A6 ⟨rfl,hb⟩
      have HA6:=Lib.hid (HA5.out.trans (hb.mono HA5.out.size))
      have HQ36:=Lib.hid (HQ35.out.below hb)
      have HQ46:=Lib.hid (HQ45.out.below hb)
      clear hb HTM5 HQ35 HQ45
      go_wp2_with fail
      refine (uT c3 N3 m3 LL A6 HQ36.out (by have:=SH.out;omega) (by have:=HLL.out;omega)).mono ?_
      rintro e A7 ⟨⟨v7,rfl,hv7⟩,hb⟩
      have HA7:=Lib.hid (HA6.out.trans (hb.mono HA6.out.size))
      have HV7:=Lib.hid hv7
      have HQ47:=Lib.hid (HQ46.out.below hb)
      obtain ⟨a7,d7,rfl⟩:=hv7.shape
      clear hb hv7 HQ36 HQ46
      go_wp2_with fail
      refine (uT c4 N4 m4 LL A7 HQ47.out (by have:=HN4.out;omega) (by have:=HLL.out;omega)).mono ?_
      rintro e A8 ⟨⟨v8,rfl,hv8⟩,hb⟩
      have HA8:=Lib.hid (HA7.out.trans (hb.mono HA7.out.size))
      have HV78:=Lib.hid (HV7.out.below hb)
      have HV8:=Lib.hid hv8
      obtain ⟨a8,d8,rfl⟩:=hv8.shape
      clear hb hv8 HV7 HQ47
      go_wp2_with fail
      refine (xU _ _ LL A8 HV78.out HV8.out (by have:=HLL.out;omega)).mono ?_
      rintro e A9 ⟨rfl,hb⟩
      have HA9:=Lib.hid (HA8.out.trans (hb.mono HA8.out.size))
      clear hb HV78 HV8
      have hk1:(k:Int)+1≤9223372036854775807:=by have:=HK.out;omega
      go_wp2_with fail
      go_roundw
      case rel=>exact ⟨k+1,by go_num,HK.out,HA9.out⟩
      case measure=>simp [intOf];omega
     ·have uF: ¬(k:Int)<10:=by omega
      have HZ:=Lib.hid (HWW.out wr HB.out)
      go_wp2_with fail
      refine (ZR.out wr HZ.out).mono ?_
      rintro e XQ ⟨rfl,hbq⟩
      have HBQ:=Lib.hid (HZ.out.trans (hbq.mono HZ.out.size))
      clear hbq
      go_wp2_with fail
      go_ret
      exact ⟨rfl,HBQ.out⟩
   ·rw [HPPB.out] at k1
    have HK1:=Lib.hid k1
    have ZQ:=Lib.hid k2
    clear k1 k2 HSQ
    refine (HET.out _ (.bad cc pc) W1 c1 40 o1 _ HK1.out (HYW.out W1 HYB.out) (by have h1:=ou.out;have h2:=VO.out;omega) (fun mb e=>by have h1:=HO1.out mb e;have h2:=VO.out;omega) HW1.out (by omega) HSL.out).mono ?_
    rintro e Y3 ⟨hval,hbu,m3,N3,hv3,hN3,YA⟩
    obtain ⟨pv1,rfl,_⟩:=hval
    have HY3:Hid (Below X0.heap.size X0 Y3):=Lib.hid (hbu.since HYB.out ou.out HO1.out)
    have HP3:Hid (aZ Y3 c1 m3 N3 M):=Lib.hid hv3
    have HP2:Hid (aZ Y3 c2 o2 40 M):=Lib.hid (HW2.out.but hbu (by
     have h1:=HC2.out;have h2:=WZ.out.1
     rintro (h | h)
     ·omega
     ·have:=WZ.out.2 _ h.symm;omega) (by
     intro mb e
     have h1:=Ai.out mb e;have h2:=WZ.out.1
     rintro (h | h)
     ·omega
     ·have:=WZ.out.2 _ h.symm;omega))
    have HM3:Hid (∀mb,m3=some mb→(mb<Y1.heap.size∨Y2.heap.size≤mb)):=Lib.hid (fun mb e=>by
     rcases YA with rfl | ⟨_,b',e',hlt⟩
     ·exact Or.inl (WZ.out.2 mb e)
     ·rw [e'] at e;have h1:=Option.some.inj e;have h2:=Yu.out;exact Or.inr (by omega))
    have SH:Hid (N3≤3000):=Lib.hid (by omega)
    clear hbu hv3 hN3 YA HW1 HW2 HSL
    go_wp2_with fail
    refine (SQ.out t tk (.bad cd pd) Y3 c2 40 o2 HR.out ZQ.out (HYW.out Y3 HY3.out) (by have h1:=HC2.out;have h2:=VO.out;have h3:=TJ.out;omega) (fun mb e=>by have h1:=Ai.out mb e;have h2:=VO.out;have h3:=TJ.out;omega) HP2.out (by omega)).mono ?_
    rintro e Y4 ⟨hval,hbu,m4,N4,hv4,hN4,_⟩
    obtain ⟨pv2,rfl,_⟩:=hval
    have HY4:Hid (Below X0.heap.size X0 Y4):=Lib.hid (hbu.since HY3.out (by have h1:=HC2.out;have h3:=TJ.out;omega) (fun mb e=>by have h1:=Ai.out mb e;have h3:=TJ.out;omega))
    have HQ2:Hid (aZ Y4 c2 m4 N4 M):=Lib.hid hv4
    have rH:=Lib.hid (HP3.out.but hbu (by
     have h1:=HC2.out;have h2:=WZ.out.1
     rintro (h | h)
     ·omega
     ·have:=Ai.out _ h.symm;omega) (by
     intro mb e
     have h1:=HM3.out mb e;have h2:=HC2.out;have h3:=HL2.out.1;have h4:=TJ.out
     rintro (h | h)
     ·omega
     ·have:=Ai.out _ h.symm;have:=HL2.out.2 _ h.symm;omega))
    have HN4:Hid (N4≤3000):=Lib.hid (by omega)
    clear hbu hv4 hN4 HP2 HP3
    go_wp2_with fail
    refine (uT c2 N4 m4 M Y4 HQ2.out (by have:=HN4.out;omega) (by have:=ZP.out;omega)).mono ?_
    rintro e Y5 ⟨⟨v5,rfl,hv5⟩,hb⟩
    have HY5:=Lib.hid (HY4.out.trans (hb.mono HY4.out.size))
    have HV5:=Lib.hid hv5
    have HQ15:=Lib.hid (rH.out.below hb)
    obtain ⟨a5,d5,rfl⟩:=hv5.shape
    clear hb hv5 rH HQ2
    go_wp2_with fail
    refine (xU _ _ M Y5 HV5.out (HVS.out.below HY5.out) (by have:=ZP.out;omega)).mono ?_
    rintro e Y6 ⟨rfl,hb⟩
    have HY6:=Lib.hid (HY5.out.trans (hb.mono HY5.out.size))
    have HQ16:=Lib.hid (HQ15.out.below hb)
    clear hb HV5 HQ15
    go_wp2_with fail
    refine (uT c1 N3 m3 M Y6 HQ16.out (by have:=SH.out;omega) (by have:=ZP.out;omega)).mono ?_
    rintro e Y7 ⟨⟨v7,rfl,hv7⟩,hb⟩
    have HY7:=Lib.hid (HY6.out.trans (hb.mono HY6.out.size))
    have HV7:=Lib.hid hv7
    obtain ⟨a7,d7,rfl⟩:=hv7.shape
    clear hb hv7 HQ16
    go_wp2_with fail
    refine (xU _ _ M Y7 HV7.out (HVS.out.below HY7.out) (by have:=ZP.out;omega)).mono ?_
    rintro e Y8 ⟨rfl,hb⟩
    have HY8:=Lib.hid (HY7.out.trans (hb.mono HY7.out.size))
    clear hb HV7
    go_wp2_with fail
    refine (ZR.out Y8 (HYW.out Y8 HY8.out)).mono ?_
    rintro e XQ ⟨rfl,hbq⟩
    have HBQ:=Lib.hid (((HYW.out Y8 HY8.out)).trans (hbq.mono ((HYW.out Y8 HY8.out)).size))
    clear hbq
    go_wp2_with fail
    go_ret
    exact ⟨rfl,HBQ.out⟩
theorem Vz {H:Type} {enc:TypeId × Value→H} {d0 d1 d2:DataW H} {p0 p1 p2:List MemPlace} {q:Prop} (W:World) (base:Nat) (v0 v1 v2:Value)
  (h0:DataW.Trod enc Tryz.prog W 0 (fun _=>true) true 9 v0 d0 p0) (h1:DataW.Trod enc Tryz.prog W 0 (fun _=>true) true 22 v1 d1 p1) (h2:DataW.Trod enc Tryz.prog W 0 (fun _=>true) true 38 v2 d2 p2)
  (k0:Value.okWide Tryz.prog W .any base 9 v0) (k1:Value.okWide Tryz.prog W .any base 22 v1) (k2:Value.okWide Tryz.prog W .any base 38 v2) (_:q)
  (hL:laidMetH Tryz.prog Rows.arithSetsRow.laid W):
  Calls Tryz.prog 8 #[v0,v1,v2] W fun e W'=>e= .returned (.bool true)∧Below W.heap.size W W':=by
 obtain ⟨nm,rfl,rfl,_,hz⟩:=Go.ChangeMaps.open_string Tryz.underlying9 k0 h0
 obtain ⟨b,hb⟩:=Zn k1 h1
 obtain ⟨l,hl,hlen,hsz⟩:=Ox k2 h2
 obtain ⟨sn,hs,hT⟩:=UU ⟨("math/bits.deBruijn32tab",Rows.laid_math_bits_deBruijn32tab),("math/bits.deBruijn64tab",Rows.laid_math_bits_deBruijn64tab),by kernel_rfl⟩ (by kernel_rfl) hL
 have hlen':l.length≤9223372036854775807:=by unfold maxLen at hlen;omega
 by_cases g1:rF nm=true
 ·by_cases g2:nm.size≤100
  ·by_cases g3:b.length≤300
   ·exact sets_in nm v1 v2 b l sn W hs hT hb hl hlen' hsz hz g1 g2 g3
   ·exact sets_out3 nm v1 v2 b l sn W hs hT hb hl hlen' hsz hz g1 g2 g3
  ·exact sets_out2 nm v1 v2 b l sn W hs hT hb hl hlen' hsz hz g1 g2
 ·exact sets_out1 nm v1 v2 b l sn W hs hT hb hl hlen' hsz hz (by simpa using g1)
end Go.Proofs.YtacfglopionkfaaGreatDoor
