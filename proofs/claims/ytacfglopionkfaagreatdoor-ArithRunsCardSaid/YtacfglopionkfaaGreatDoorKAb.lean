import Derived.Test.YtacfglopionkfaaGreatDoorKAu
import Derived.Test.YtacfglopionkfaaGreatDoorKAv
import Derived.Test.YtacfglopionkfaaGreatDoorKSn
import Derived.Test.YtacfglopionkfaaGreatDoorKVj
import Derived.Test.YtacfglopionkfaaGreatDoorKRi
import Derived.Test.YtacfglopionkfaaGreatDoorKO
import Derived.Test.YtacfglopionkfaaGreatDoorRows
namespace Go.Proofs.YtacfglopionkfaaGreatDoor
set_option maxRecDepth 100000
open Go.RowKit Go.WideMaps Go.Maps
structure Zy (LV M:Vl):Prop where
 F9:M.lS
 E8: ∀x∈M,x.2.size≤9223372036854775807
 len:M.length≤40
theorem Zq {LV:Vl} (hsz: ∀x∈LV,x.1.size≤maxLen∧x.2.size≤maxLen):Zy LV (dD (LV.take 40)):=
 ⟨Ie _,fun x hx=>by have h1:=(hsz x (List.mem_of_mem_take (Ib hx).1)).2;unfold maxLen at h1;omega,by have h1:=yT (LV.take 40);have h2:=List.length_take_le 40 LV;omega⟩
def DN (s:Nat→Addr) (w:World) (er:Value) (c p g:Int):Prop:=
 (er= .nilIface∧c=0∧p=0∧g=0)∨ ∃cn pn:Nat,ErrAt w s cn pn er∧1≤cn∧cn≤21∧c=cn∧p=pn∧g=1
theorem DN.below {s:Nat→Addr} {w w':World} {er:Value} {c p g:Int} (h:DN s w er c p g) (hb:Below w.heap.size w w'):DN s w' er c p g:=
 h.imp id fun ⟨cn,pn,h1,h2⟩=>⟨cn,pn,kJ.below hb h1,h2⟩
theorem DN.tell {s:Nat→Addr} {w:World} {er:Value} {c p g:Int} (h:DN s w er c p g) (hs:o7 w s):Calls Tryz.prog 11 #[er] w fun e w'=>e= .returned (.agg #[.int .i64 c,.int .i64 p,.int .i64 g])∧Below w.heap.size w w':=by
 rcases h with ⟨rfl,rfl,rfl,rfl⟩ | ⟨cn,pn,h1,h2,h3,rfl,rfl,rfl⟩
 ·exact KG w
 ·exact KH s cn pn er w hs h1 h2 h3
structure Xi (s:Nat→Addr) (w:World) (vb N:Nat) (mo:Option Nat) (x c p g:Int) (L:Vl) (e:Ending) (w':World):Prop where
 val: ∃er,e= .returned (.tuple #[.int .i64 x,er])∧DN s w' er c p g
 bu:But (VB vb mo) w w'
 va: ∃jq N',aZ w' vb jq N' L∧N'≤N+2000∧(jq=mo∨(mo=none∧ ∃b,jq=some b∧w.heap.size≤b))
set_option maxHeartbeats 4000000 in
theorem eval_no (bv:Value) (b:List Int) (n c p:Nat) (a:Option Addr) (sn:Nat→Addr) (w:World) (hp:cZ b n=some (.bad c p)) (hs:Sl w bv b) (hsn:Er w sn):
  Calls Tryz.prog 24 #[bv,.pointer a] w fun e w'=>(∃pv,e= .returned (.tuple #[.int .i64 0,.iface 89 pv])∧ErrAt w' sn c p (.iface 89 pv))∧Below w.heap.size w w':=by
 obtain ⟨oa,cap,rfl⟩:=lX hs
 have Ns:=Lib.hid (EM _ b n c p sn w hp hs hsn)
 clear hp hs hsn
 go_enter Tryz.func24,Tryz.ntmps24
 go_wp2_with fail
 refine Ns.out.mono ?_
 rintro e w1 ⟨⟨pv,rfl,her⟩,hb1⟩
 have DC:=Lib.hid her
 have HB1:=Lib.hid hb1
 clear her hb1
 go_wp2_with fail
 go_ret2
 exact ⟨⟨pv,rfl,DC.out⟩,HB1.out⟩
theorem But.since {w0 X Y:World} {vb:Nat} {mo:Option Nat} (h:But (VB vb mo) X Y) (hX:Below w0.heap.size w0 X) (hv:w0.heap.size≤vb) (hm: ∀mb,mo=some mb→w0.heap.size≤mb):Below w0.heap.size w0 Y:=
 hX.trans (h.below hX.size (by
  rintro i hi (e | e)
  ·omega
  ·have:=hm i e.symm;omega))
theorem Hy (b:List Int): ∃n r,n≤100000∧cZ b n=some r:=by
 by_cases h:1024<b.length
 ·refine ⟨0,.bad 2 0,by omega,?_⟩
  unfold cZ
  rw [if_pos h]
 ·obtain ⟨r,hr⟩:=CS b
  exact ⟨_,r,by omega,hr⟩
def Rv.xv:Rv→Int
 | .ok x _=>x
 | _=>0
def Rv.cv:Rv→Int
 | .bad c _=>c
 | _=>0
def Rv.pv:Rv→Int
 | .bad _ p=>p
 | _=>0
def Rv.gv:Rv→Int
 | .bad _ _=>1
 | _=>0
theorem J6 {X w':World} {vb N:Nat} {mo:Option Nat} {M:Vl} {rv:Rv} {s:Nat→Addr} {e:Ending} (hq:ZX X vb N mo M s rv e w') (hc: ∀c p,rv= .bad c p→1≤c∧c≤21):
  Xi s X vb N mo rv.xv rv.cv rv.pv rv.gv (Nk rv M) e w':=by
 obtain ⟨h1,h2,h3⟩:=hq
 refine ⟨?_,h2,h3⟩
 cases rv with
 | ok x e'=>
  obtain rfl:e= .returned (.tuple #[.int .i64 x,.nilIface]):=h1
  exact ⟨_,rfl,Or.inl ⟨rfl,rfl,rfl,rfl⟩⟩
 | bad c p=>
  obtain ⟨pv,rfl,her⟩:=h1
  obtain ⟨c1,c2⟩:=hc c p rfl
  exact ⟨_,rfl,Or.inr ⟨c,p,her,c1,c2,rfl,rfl,rfl⟩⟩
 | no=>exact h1.elim
theorem eval_both (w0:World) (s:Nat→Addr) (hs:o7 w0 s) (hT:TP w0) (bv:Value) (b:List Int) (hsl:Sl w0 bv b) (M:Vl) (hM:M.lS) (hz: ∀x∈M,x.2.size≤9223372036854775807) (hl:M.length≤2000):
  ∃(x c p g:Int) (L:Vl),L.length≤M.length+1100∧
   (∀X vb N mo,Below w0.heap.size w0 X→w0.heap.size≤vb→(∀mb,mo=some mb→w0.heap.size≤mb)→aZ X vb mo N M→N≤1000000→Calls Tryz.prog 24 #[bv,.pointer (some ⟨vb,0,none⟩)] X (Xi s X vb N mo x c p g L))∧
   (∀X vv,Below w0.heap.size w0 X→VS X vv M→Calls Tryz.prog 25 #[bv,vv] X fun e w'=>(∃v',e= .returned (.tuple #[.int .i64 x,v',.agg #[.int .i64 c,.int .i64 p,.int .i64 g]])∧VS w' v' L)∧Below X.heap.size X w'):=by
 have hb:=hsl.1
 obtain ⟨n,r,hn,hr⟩:=Hy b
 cases r with
 | bad c p=>
  have hc:=ZL hr
  refine ⟨0,c,p,1,M,by omega,fun X vb N mo hX hv hm hva hN=>?_,fun X vv hX hvs=>?_⟩
  ·refine (eval_no bv b n c p _ s X hr (hsl.below hX) (hs.er.below hX)).mono ?_
   rintro e w' ⟨⟨pv,rfl,her⟩,hb'⟩
   exact ⟨⟨_,rfl,Or.inr ⟨c,p,her,by omega,by omega,rfl,rfl,rfl⟩⟩,But.of_below hb',mo,N,hva.below hb',by omega,Or.inl rfl⟩
  ·refine (reval_bad M bv b n c p hr hn vv X (hsl.below hX) hvs).mono ?_
   rintro e w' ⟨⟨_,rfl⟩,hb'⟩
   exact ⟨⟨_,rfl,hvs.below hb'⟩,hb'⟩
 | ok t k=>
  obtain ⟨rv,rC⟩: ∃rv,ev (dY M) t []=rv:=⟨_,rfl⟩
  have ho:=pV hb hr
  have hcd: ∀c p,rv= .bad c p→1≤c∧c≤21:=fun c p e=>jf (dY M) (fun n=>(jc _).2) t [] c p (rC.trans e)
  have hno:rv≠ .no:=by rw [←rC];exact lD _ t [] ho
  have hlen:(Nk rv M).length≤M.length+1100:=by
   cases rv with
   | ok x e=>
    have h1:=oh _ t [] e x rC
    have h2:=xR M e
    have h3:=gK t
    have h4:=oP hr
    obtain ⟨_,_,h5⟩:=lJ hr
    simp only [List.length_nil] at h1
    show (iK e M).length≤M.length+1100
    omega
   | bad c p=>show M.length≤M.length+1100;omega
   | no=>show M.length≤M.length+1100;omega
  refine ⟨rv.xv,rv.cv,rv.pv,rv.gv,Nk rv M,hlen,fun X vb N mo hX hv hm hva hN=>?_,fun X vv hX hvs=>?_⟩
  rotate_left
  ·refine (reval_ok M hM hz (by omega) bv b n t k hr hn hb vv X (hsl.below hX) hvs).mono ?_
   rw [rC]
   rintro e w' ⟨hq,hb'⟩
   cases rv with
   | ok x e'=>
    obtain ⟨v',rfl,hv'⟩:=hq
    exact ⟨⟨v',rfl,hv'⟩,hb'⟩
   | bad c p=>
    obtain ⟨_,rfl⟩:=hq
    exact ⟨⟨_,rfl,hvs.below hb'⟩,hb'⟩
   | no=>exact hq.elim
  ·refine (Nh bv b n t k vb N mo M X s hr hb (hsl.below hX) (hs.er.below hX) hva hz (fun Y hY=>hT.below (hY.since hX hv hm)) hN rv rC).mono ?_
   intro e w' hq
   exact J6 hq hcd
end Go.Proofs.YtacfglopionkfaaGreatDoor
namespace Go.Proofs.YtacfglopionkfaaGreatDoor
set_option maxRecDepth 100000
open Go.RowKit Go.WideMaps Go.Maps
set_option maxHeartbeats 16000000 in
theorem aruns_any (bv vv:Value) (b:List Int) (LV:Vl) (s:Nat→Addr) (w:World) (hs:o7 w s) (hT:TP w) (hsl:Sl w bv b) (hv:VS w vv LV) (hlen:LV.length≤9223372036854775807) (hsz: ∀x∈LV,x.1.size≤maxLen∧x.2.size≤maxLen):
  Calls Tryz.prog 5 #[bv,vv] w fun e w'=>e= .returned (.bool true)∧Below w.heap.size w w':=by
 obtain ⟨M,hM⟩: ∃M,M=dD (LV.take 40):=⟨_,rfl⟩
 have Yr:=Zq hsz
 rw [←hM] at Yr
 obtain ⟨xv,cv,pv,gv,LL,hLL,hE,hR⟩:=eval_both w s hs hT bv b hsl M Yr.F9 Yr.E8 (by have:=Yr.len;omega)
 have Z4:=Lib.hid (LQ vv LV w hv hlen (fun x hx=>(hsz x hx).1))
 rw [←hM] at Z4
 have HE:=Lib.hid hE
 have HR:=Lib.hid hR
 have RI:Hid (∀X,Below w.heap.size w X→o7 X s):=Lib.hid fun X hX=>hs.below hX
 have HLN:Hid (LL.length≤1000000):=Lib.hid (by have:=Yr.len;omega)
 have ZR:Hid (∀X,Below w.heap.size w X→Calls Tryz.prog 23 #[] X fun e w'=>e= .returned (.bool true)∧Below X.heap.size X w'):=Lib.hid fun X hX=>uK s X (hs.er.below hX) (hT.below hX)
 obtain ⟨ba,bc,rfl⟩:=lX hsl
 obtain ⟨la,lc,rfl⟩:=hv.shape
 clear hs hT hsl hv hlen hsz hM Yr hLL hE hR
 generalize b.length=bn at*
 generalize LV.length=ln at*
 go_enter Tryz.func5,Tryz.ntmps5
 go_wp2_with fail
 refine Z4.out.mono ?_
 rintro e X0 ⟨vb,mo,vm,rfl,hi⟩
 obtain ⟨va,vc,rfl⟩:=dW hi.row
 have HI:=Lib.hid hi
 clear hi Z4
 go_wp2_with fail
 refine (HE.out X0 vb 40 mo HI.out.bel HI.out.lo HI.out.RG HI.out.va (by omega)).mono ?_
 rintro e X1 ⟨⟨er,rfl,Zt⟩,hbu,mo1,N1,hva1,hN1,_⟩
 have HB1:Hid (Below w.heap.size w X1):=Lib.hid (hbu.since HI.out.bel HI.out.lo HI.out.RG)
 have HVS1:Hid (VS X1 (.slice va M.length vc) M):=Lib.hid (VS.xJ (Gv HI.out.row HI.out.va hbu))
 have HTL:=Lib.hid Zt
 have HVA1:=Lib.hid hva1
 have HN1:Hid (N1≤1000000):=Lib.hid (by omega)
 clear Zt hbu hva1 hN1
 go_wp2_with fail
 refine (HR.out X1 _ HB1.out HVS1.out).mono ?_
 rintro e X2 ⟨⟨v2,rfl,hv2⟩,hb2⟩
 obtain ⟨aa,ac,rfl⟩:=hv2.shape
 have HB2:=Lib.hid (HB1.out.trans (hb2.mono HB1.out.size))
 have HB12:=Lib.hid hb2
 have NC:=Lib.hid hv2
 clear hb2 hv2 HR HE
 go_wp2_with fail
 obtain ⟨X3,hX3⟩: ∃X3,X3=X2.alloc (.cells #[.int .i64 cv,.int .i64 pv,.int .i64 gv] 32):=⟨_,rfl⟩
 have HB23:Hid (Below X2.heap.size X2 X3):=Lib.hid (by rw [hX3];exact (Below.refl _ _).alloc (Nat.le_refl _) _)
 have HF3:Hid (X3.heap[X2.heap.size]? =some (.cells #[.int .i64 cv,.int .i64 pv,.int .i64 gv] 32 (0,0))):=Lib.hid (by rw [hX3];exact heap_alloc_last X2 _)
 rw [←hX3]
 clear hX3
 have HB13:Hid (Below X1.heap.size X1 X3):=Lib.hid (HB12.out.trans (HB23.out.mono HB12.out.size))
 have HB3:Hid (Below w.heap.size w X3):=Lib.hid (HB1.out.trans (HB13.out.mono HB1.out.size))
 have HVA3:=Lib.hid (HVA1.out.below HB13.out)
 have Nr:=Lib.hid (NC.out.below HB23.out)
 have HTL3:Hid (∀Y,Below X3.heap.size X3 Y→_):=Lib.hid fun Y hY=>(HTL.out.below (HB13.out.trans (hY.mono HB13.out.size))).tell (RI.out Y (HB3.out.trans (hY.mono HB3.out.size)))
 have Qr:Hid (∀X,Below X3.heap.size X3 X→X.cell? ⟨X2.heap.size,0,none⟩=some (.int .i64 cv)∧X.cell? ⟨X2.heap.size,1,none⟩=some (.int .i64 pv)∧X.cell? ⟨X2.heap.size,2,none⟩=some (.int .i64 gv)):=Lib.hid fun X hX=>(kY ((hX.block _ (lt_of_heap HF3.out)).trans HF3.out)).1
 have EF:=Lib.hid (QS cv pv gv)
 clear RI HB1 HVS1 HTL HVA1 HB2 HB12 NC HB23 HF3 HB13 HI
 generalize X2.heap.size=fb at*
 refine Reg.bI (fun X=>Below X3.heap.size X3 X) (fun j=>([some (.int .i64 xv),some (.int .i64 xv),some (.bool true),some (.bool true),some (er),some (.agg #[.int .i64 cv,.int .i64 pv,.int .i64 gv]),some (.agg #[.int .i64 cv,.int .i64 pv,.int .i64 gv]),some (.bool true),some (.bool true),some (.bool true),some (.pointer (some ⟨vb,0,none⟩)),none,some (.slice aa LL.length ac),some (.bool true),some (.bool true),some (.bool true),some (.bool true),some (.bool true),some (.bool true)]:List (Option Value)).getD j none) (fun _ z X=> ∃a9 c9,z= .slice a9 LL.length c9∧VS X z LL) (by kernel_rfl) (by kernel_rfl) (by kernel_rfl) (by kernel_rfl) ?iY ?rsE ?iW
 case iY=>exact (Below.refl _ _).drew
 case rsE=>
  refine Reg.ah.plain rfl (fun T X hS hk K hK=>?_) ?_
  ·have g7:=hk.old 7 rfl
   have hK:=hK _ X hS (Reg.Is.aj rfl) (fun _ _ _ h=>h)
   clear hk
   go_simp
   exact hK
  refine Reg.ah.plain rfl (fun T X hS hk K hK=>?_) ?_
  ·have g9:=hk.old 9 rfl
   have hK:=hK _ X hS (Reg.Is.aj rfl) (fun _ _ _ h=>h)
   clear hk
   go_simp
   exact hK
  refine Reg.ah.plain rfl (fun T X hS hk K hK=>?_) ?_
  ·have g30:=hk.val 0 30 rfl
   have g31:=hk.val 1 31 rfl
   have hK:=hK _ X hS (Reg.Is.aj rfl) (fun _ _ _ h=>h)
   clear hk
   go_simp
   exact hK
  refine Reg.ah.plain rfl (fun T X hS hk K hK=>?_) ?_
  ·have g32:=hk.val 2 32 rfl
   have hK:=hK _ X hS (Reg.Is.aj rfl) (fun _ _ _ h=>h)
   clear hk
   go_simp
   exact hK
  refine Reg.ah.guarded 3 33 true rfl (by kernel_rfl) (by kernel_rfl) rfl (fun T X hS hk K hK=>?_) ?_
  ·have g8:=hk.old 8 rfl
   have hK:=hK _ X hS (Reg.Is.aj rfl) (fun _ _ _ h=>h)
   clear hk
   go_simp
   exact hK
  refine Reg.ah.guarded 3 33 true rfl (by kernel_rfl) (by kernel_rfl) rfl (fun T X hS hk K hK=>?_) ?_
  ·have g34:=hk.val 4 34 rfl
   clear hk
   go_simp
   refine (HTL3.out X hS).mono ?_
   rintro e w1 ⟨rfl,hb⟩
   exact hK _ _ (hS.trans (hb.mono hS.size)) (Reg.Is.aj rfl) (by rintro j z hj ⟨a9,c9,rfl,h9⟩;exact ⟨a9,c9,rfl,h9.below hb⟩)
  refine Reg.ah.guarded 3 33 true rfl (by kernel_rfl) (by kernel_rfl) rfl (fun T X hS hk K hK=>?_) ?_
  ·have g11:=hk.old 11 rfl
   obtain ⟨c0,c1,c2⟩:=Qr.out X hS
   have hK:=hK _ X hS (Reg.Is.aj rfl) (fun _ _ _ h=>h)
   clear hk
   go_simp
   exact hK
  refine Reg.ah.guarded 3 33 true rfl (by kernel_rfl) (by kernel_rfl) rfl (fun T X hS hk K hK=>?_) ?_
  ·have g35:=hk.val 5 35 rfl
   have g36:=hk.val 6 36 rfl
   have q2:=EF.out
   have hK:=hK _ X hS (Reg.Is.aj rfl) (fun _ _ _ h=>h)
   clear hk
   go_simp
   exact hK
  refine Reg.ah.plain rfl (fun T X hS hk K hK=>?_) ?_
  ·have g33:=hk.val 3 33 rfl
   have g37:=hk.val 7 37 rfl
   have hK:=hK _ X hS (Reg.Is.aj rfl) (fun _ _ _ h=>h)
   clear hk
   go_simp
   exact hK
  refine Reg.ah.plain rfl (fun T X hS hk K hK=>?_) ?_
  ·have g38:=hk.val 8 38 rfl
   have hK:=hK _ X hS (Reg.Is.aj rfl) (fun _ _ _ h=>h)
   clear hk
   go_simp
   exact hK
  refine Reg.ah.guarded 9 39 true rfl (by kernel_rfl) (by kernel_rfl) rfl (fun T X hS hk K hK=>?_) ?_
  ·have g5:=hk.old 5 rfl
   have hK:=hK _ X hS (Reg.Is.aj rfl) (fun _ _ _ h=>h)
   clear hk
   go_simp
   exact hK
  refine Reg.ah.guarded 9 39 true rfl (by kernel_rfl) (by kernel_rfl) rfl (fun T X hS hk K hK=>?_) ?_
  ·have g40:=hk.val 10 40 rfl
   clear hk
   go_simp
   refine (uT vb N1 mo1 LL X (HVA3.out.below hS) HN1.out HLN.out).mono ?_
   rintro e w1 ⟨⟨v9,rfl,hv9⟩,hb⟩
   exact hK _ _ (hS.trans (hb.mono hS.size)) (Reg.Is.XK rfl (by obtain ⟨a9,c9,rfl⟩:=hv9.shape;exact ⟨a9,c9,rfl,hv9⟩)) (by rintro j z hj ⟨a9,c9,rfl,h9⟩;exact ⟨a9,c9,rfl,h9.below hb⟩)
  refine Reg.ah.guarded 9 39 true rfl (by kernel_rfl) (by kernel_rfl) rfl (fun T X hS hk K hK=>?_) ?_
  ·have g10:=hk.old 10 rfl
   have hK:=hK _ X hS (Reg.Is.aj rfl) (fun _ _ _ h=>h)
   clear hk
   go_simp
   exact hK
  refine Reg.ah.guarded 9 39 true rfl (by kernel_rfl) (by kernel_rfl) rfl (fun T X hS hk K hK=>?_) ?_
  ·obtain ⟨x41,g41,r41⟩:=hk.prop 11 41 (by kernel_rfl) (by kernel_rfl) rfl
   have g42:=hk.val 12 42 rfl
   obtain ⟨a9,c9,rfl,h9⟩:=r41
   clear hk
   go_simp
   refine (xU _ _ LL X h9 (Nr.out.below hS) HLN.out).mono ?_
   rintro e w1 ⟨rfl,hb⟩
   exact hK _ _ (hS.trans (hb.mono hS.size)) (Reg.Is.aj rfl) (by rintro j z hj ⟨a9,c9,rfl,h9⟩;exact ⟨a9,c9,rfl,h9.below hb⟩)
  refine Reg.ah.plain rfl (fun T X hS hk K hK=>?_) ?_
  ·have g39:=hk.val 9 39 rfl
   have g43:=hk.val 13 43 rfl
   have hK:=hK _ X hS (Reg.Is.aj rfl) (fun _ _ _ h=>h)
   clear hk
   go_simp
   exact hK
  refine Reg.ah.plain rfl (fun T X hS hk K hK=>?_) ?_
  ·have ZW:=hk.val 14 44 rfl
   have hK:=hK _ X hS (Reg.Is.aj rfl) (fun _ _ _ h=>h)
   clear hk
   go_simp
   exact hK
  refine Reg.ah.guarded 15 45 true rfl (by kernel_rfl) (by kernel_rfl) rfl (fun T X hS hk K hK=>?_) ?_
  ·clear hk
   go_simp
   refine (ZR.out X (HB3.out.trans (hS.mono HB3.out.size))).mono ?_
   rintro e w1 ⟨rfl,hb⟩
   exact hK _ _ (hS.trans (hb.mono hS.size)) (Reg.Is.aj rfl) (by rintro j z hj ⟨a9,c9,rfl,h9⟩;exact ⟨a9,c9,rfl,h9.below hb⟩)
  refine Reg.ah.plain rfl (fun T X hS hk K hK=>?_) ?_
  ·have YE:=hk.val 15 45 rfl
   have g46:=hk.val 16 46 rfl
   have hK:=hK _ X hS (Reg.Is.aj rfl) (fun _ _ _ h=>h)
   clear hk
   go_simp
   exact hK
  refine Reg.ah.plain rfl (fun T X hS hk K hK=>?_) ?_
  ·have g47:=hk.val 17 47 rfl
   have hK:=hK _ X hS (Reg.Is.aj rfl) (fun _ _ _ h=>h)
   clear hk
   go_simp
   exact hK
  exact Reg.ah.nil
 case iW=>
  intro u w1 hS hI
  have e0:u 0= .int .i64 xv:=(hI 0 (by decide)).val rfl
  have e1:u 1= .int .i64 xv:=(hI 1 (by decide)).val rfl
  have e2:u 2= .bool true:=(hI 2 (by decide)).val rfl
  have e3:u 3= .bool true:=(hI 3 (by decide)).val rfl
  have e4:u 4=er:=(hI 4 (by decide)).val rfl
  have e5:u 5= .agg #[.int .i64 cv,.int .i64 pv,.int .i64 gv]:=(hI 5 (by decide)).val rfl
  have e6:u 6= .agg #[.int .i64 cv,.int .i64 pv,.int .i64 gv]:=(hI 6 (by decide)).val rfl
  have e7:u 7= .bool true:=(hI 7 (by decide)).val rfl
  have e8:u 8= .bool true:=(hI 8 (by decide)).val rfl
  have e9:u 9= .bool true:=(hI 9 (by decide)).val rfl
  have e10:u 10= .pointer (some ⟨vb,0,none⟩):=(hI 10 (by decide)).val rfl
  have e11:=(hI 11 (by decide)).prop rfl
  have e12:u 12= .slice aa LL.length ac:=(hI 12 (by decide)).val rfl
  have e13:u 13= .bool true:=(hI 13 (by decide)).val rfl
  have e14:u 14= .bool true:=(hI 14 (by decide)).val rfl
  have e15:u 15= .bool true:=(hI 15 (by decide)).val rfl
  have e16:u 16= .bool true:=(hI 16 (by decide)).val rfl
  have e17:u 17= .bool true:=(hI 17 (by decide)).val rfl
  have e18:u 18= .bool true:=(hI 18 (by decide)).val rfl
  clear hI
  simp only [Reg.aK,Act.put,List.setIfInBounds_toArray,List.set_cons_succ,List.set_cons_zero,Nat.zero_add,Nat.reduceAdd,e0,e1,e2,e3,e4,e5,e6,e7,e8,e9,e10,e12,e13,e14,e15,e16,e17,e18]
  clear e0 e1 e2 e3 e4 e5 e6 e7 e8 e9 e10 e12 e13 e14 e15 e16 e17 e18
  have HZ:=Lib.hid (HB3.out.trans (hS.mono HB3.out.size))
  clear hS
  go_wp2
  go_ret
  exact ⟨rfl,HZ.out⟩
theorem VF {H:Type} {enc:TypeId × Value→H} {d0 d1:DataW H} {p0 p1:List MemPlace} {q:Prop} (W:World) (base:Nat) (v0 v1:Value)
  (h0:DataW.Trod enc Tryz.prog W 0 (fun _=>true) true 22 v0 d0 p0) (h1:DataW.Trod enc Tryz.prog W 0 (fun _=>true) true 38 v1 d1 p1)
  (k0:Value.okWide Tryz.prog W .any base 22 v0) (k1:Value.okWide Tryz.prog W .any base 38 v1) (_:q)
  (hL:laidMetH Tryz.prog Rows.arithRunsRow.laid W):
  Calls Tryz.prog 5 #[v0,v1] W fun e W'=>e= .returned (.bool true)∧Below W.heap.size W W':=by
 obtain ⟨b,hb⟩:=Zn k0 h0
 obtain ⟨l,hl,hlen,hsz⟩:=Ox k1 h1
 obtain ⟨sn,hs,hT⟩:=UU ⟨("math/bits.deBruijn32tab",Rows.laid_math_bits_deBruijn32tab),("math/bits.deBruijn64tab",Rows.laid_math_bits_deBruijn64tab),by kernel_rfl⟩ (by kernel_rfl) hL
 exact aruns_any v0 v1 b l sn W hs hT hb hl (by unfold maxLen at hlen;omega) hsz
end Go.Proofs.YtacfglopionkfaaGreatDoor
