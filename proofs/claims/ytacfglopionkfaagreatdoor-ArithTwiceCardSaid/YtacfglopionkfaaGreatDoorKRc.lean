import Derived.Test.YtacfglopionkfaaGreatDoorKRa
import Derived.Test.YtacfglopionkfaaGreatDoorAcRn
namespace Go.Proofs.YtacfglopionkfaaGreatDoor
set_option maxHeartbeats 8000000
set_option maxRecDepth 100000
open Go.RowKit
def zT:Tr:= .un ak 0 (.num 0 0)
def zA:Array Value:= #[.string ⟨#[]⟩,.int .i64 0,.string ⟨#[]⟩,.int .i64 0,.int .i64 0,.slice none 0 0]
theorem D9:Tryz.prog.built 30 []=some zA:=by kernel_rfl
def Dp (l:List Int) (bv:Value) (rb n lo:Nat):Rs→Tr→Value→World→Prop
 | .ok t nx,y,kv,w'=>y=t∧t.In w' lo kv∧ ∃k,gU l bv rb k 0 0 w'∧k≤l.length∧tok l k=nx
 | .bad c q,_,_,w'=>0<c∧ ∃k,gU l bv rb k c q w'∧k≤l.length+n
def Ak (l:List Int) (bv:Value) (rb n lo:Nat) (r:Rs) (e:Ending) (w':World):Prop:= ∃(y:Tr) (oa:Option Addr) (na:Nat),e= .returned (.agg #[.string y.op,.int .i64 y.val,.string y.nm,.int .i64 y.pos,.int .i64 y.aG,.slice oa na na])∧Dp l bv rb n lo r y (.slice oa na na) w'
theorem Dp.st {l:List Int} {bv:Value} {rb n lo:Nat} {r:Rs} {y:Tr} {kv:Value} {w:World} (h:Dp l bv rb n lo r y kv w): ∃k c q,gU l bv rb k c q w:=by
 cases r with
 | ok t nx=>obtain ⟨_,_,k,hk,_⟩:=h;exact ⟨k,0,0,hk⟩
 | bad c q=>obtain ⟨_,k,hk,_⟩:=h;exact ⟨k,c,q,hk⟩
theorem Dp.move {l:List Int} {bv:Value} {rb n lo n0 Yx:Nat} {r:Rs} {y:Tr} {kv:Value} {w w':World} (h:Dp l bv rb n lo r y kv w) (hb:w'.heap[rb]? =w.heap[rb]?) (hs:Sl w' bv l) (hk: ∀k,lo≤k→k<w.heap.size→w'.heap[k]? =w.heap[k]?) (hlo:Yx≤lo) (hn:n≤n0):Dp l bv rb n0 Yx r y kv w':=by
 cases r with
 | ok t nx=>
  obtain ⟨rfl,hi,k,hr,hkl,ht⟩:=h
  exact ⟨rfl,(hi.kept hk _ _).mono hlo _ _,k,⟨hb.trans hr.blk,hs,hr.len,hr.hi,hr.ap⟩,hkl,ht⟩
 | bad c q=>
  obtain ⟨hc,k,hr,hkl⟩:=h
  exact ⟨hc,k,⟨hb.trans hr.blk,hs,hr.len,hr.hi,hr.ap⟩,by omega⟩
theorem gU.sh {l:List Int} {bv:Value} {rb k c q:Nat} {w:World} (h:gU l bv rb k c q w): ∃a cap,bv= .slice a l.length cap∧l.length≤cap:=by
 obtain ⟨hy,hl,⟨rfl,a,cap,hv⟩ | ⟨x,o,cap,hv,hcl,hcm,hr⟩⟩:=h.sl
 ·exact ⟨a,cap,hv,Nat.zero_le _⟩
 ·exact ⟨_,cap,hv,hcl⟩
structure Bh (l:List Int) (bv:Value) (rb n:Nat):Prop where
 expr: ∀k res w,rd l n .expr (tok l k)=some res→gU l bv rb k 0 0 w→k≤l.length→Calls Tryz.prog 41 #[.pointer (some ⟨rb,0,none⟩)] w fun e w'=>Ak l bv rb n w.heap.size res e w'∧Ch rb w w'
 cond: ∀k res w,rd l n .cond (tok l k)=some res→gU l bv rb k 0 0 w→k≤l.length→Calls Tryz.prog 77 #[.pointer (some ⟨rb,0,none⟩)] w fun e w'=>Ak l bv rb n w.heap.size res e w'∧Ch rb w w'
 bin: ∀least k res w,rd l n (.bin least) (tok l k)=some res→1≤least→least≤11→gU l bv rb k 0 0 w→k≤l.length→Calls Tryz.prog 108 #[.pointer (some ⟨rb,0,none⟩),.int .i64 (least:Nat)] w fun e w'=>Ak l bv rb n w.heap.size res e w'∧Ch rb w w'
 iR: ∀k res w,rd l n .iR (tok l k)=some res→gU l bv rb k 0 0 w→k≤l.length→Calls Tryz.prog 147 #[.pointer (some ⟨rb,0,none⟩)] w fun e w'=>Ak l bv rb n w.heap.size res e w'∧Ch rb w w'
theorem Ch.eY {rb:Nat} {w w':World} (h:Ch rb w w') {g:Nat} (hg:w.heap.size≤g) (hr:rb<w.heap.size) (c:Array Value):Ch rb w (w'.setRow g c):=h.setRow hg (by omega) c
theorem gU.eY {l:List Int} {bv:Value} {rb k c q:Nat} {w w':World} (h:gU l bv rb k c q w') (h0:gU l bv rb k c q w'→Sl w bv l) (hc:Ch rb w w') (hr:rb<w.heap.size) {g:Nat} (hg:w.heap.size≤g) (x:Array Value):gU l bv rb k c q (w'.setRow g x):=
 ⟨by
  show (w'.heap.modify g _)[rb]? =_
  rw [Array.getElem?_modify,if_neg (by omega)]
  exact h.blk,mW (h0 h) h.ap (hc.eY hg hr x),h.len,h.hi,h.ap⟩
theorem DZ {l:List Int} {bv:Value} {rb k:Nat} {w:World} (h:gU l bv rb k 0 0 w) (hk:k≤l.length):
  Calls Tryz.prog 43 #[.pointer (some ⟨rb,0,none⟩)] w fun x w'=>x= .returned (zT.v (.slice none 0 0))∧gU l bv rb (ay l k) (tok l k).code (tok l k).start w'∧0<(tok l k).code∧Ch rb w w':=by
 have hc0:0<(tok l k).code:=by unfold Tk.code;split<;>omega
 have hcode:=Xq l k
 have hst:=KE l k
 rw [hst]
 clear hst
 have hp:=bJ l k hk
 obtain ⟨W,hW⟩: ∃W,W=w.alloc (.cells zA 30):=⟨_,rfl⟩
 have hb0:Below w.heap.size w W:=by rw [hW];exact (Below.refl _ _).alloc (Nat.le_refl _) _
 have hG:W.heap[w.heap.size]? =some (.cells zA 30 (0,0)):=by rw [hW];exact heap_alloc_last w _
 have lM:=Lib.hid (qJ (h.next hb0))
 have HB0:=Lib.hid hb0
 have HG:=Lib.hid hG
 have dR:=Lib.hid hW
 have hll:=h.len
 have hrw:=h.lt
 have HSL:=Lib.hid h.sl
 have ZY:=Lib.hid D9
 obtain ⟨p,hpe⟩: ∃p,ay l k=p:=⟨_,rfl⟩
 rw [hpe] at lM hcode hp⊢
 have vH:=Lib.hid hcode
 generalize (tok l k).code=cd at*
 clear h hb0 hG hW hpe hcode
 unfold zA at dR
 go_enter Tryz.func43,Tryz.ntmps43
 go_upto_region 1 with fail
 rw [←dR.out]
 go_wp2_with fail
 refine lM.out.mono ?_
 rintro x w1 ⟨rfl,hr1,hc1⟩
 have HR1:=Lib.hid hr1
 have ou:=Lib.hid ((Ch.of_below HB0.out (Nat.le_of_lt hrw)).trans hc1)
 have Dz:=Lib.hid ((hc1.2 _ (lt_of_heap HG.out) (by omega)).trans HG.out)
 clear hr1 hc1 lM
 have HX:Hid (∀X,Below w1.heap.size w1 X→X.cell? ⟨rb,0,none⟩=some bv∧X.cell? ⟨rb,1,none⟩=some (.int .i64 p)):=Lib.hid fun X hX=>⟨(HR1.out.next hX).cells.1,(HR1.out.next hX).cells.2.1⟩
 go_wp2_with fail
 by_cases hlt:p<l.length
 ·obtain ⟨x,ox,cap,rfl,hcl,hcm,hrow,hne⟩:=HR1.out.row hlt
  have uF:(p:Int)<l.length:=by omega
  have hdec:decide ((p:Int)<l.length)=true:=by simpa using uF
  have hcp: ¬cap=p:=by omega
  have hpc:p≤cap:=by omega
  have Z8:Hid (∀X,Below w1.heap.size w1 X→Calls Tryz.prog 79 #[.slice (some ⟨x,ox+p,none⟩) (l.length - p) (cap - p)] X fun e w'=>e= .returned (.tuple #[.int .i64 (cV (l.drop p)),.int .i64 (cN (l.drop p)),.bool (cO (l.drop p))])∧X=w'):=Lib.hid fun X hX=>by
   have hlx:=(HR1.out.next hX).sl
   exact iq _ _ _ (Sl.drop hlx.1 hlx.2.1 hcl hcm (hrow.below hX) p hp)
  clear hrow
  generalize cV (l.drop p)=vv at*
  generalize cN (l.drop p)=nn at*
  generalize cO (l.drop p)=ob at*
  refine Reg.bI (fun X=>Below w1.heap.size w1 X) (fun j=>([some (.pointer (some ⟨rb,0,none⟩)),some (.pointer (some ⟨rb,0,none⟩)),some (.pointer (some ⟨rb,1,none⟩)),some (.int .i64 p),some (.pointer (some ⟨rb,0,none⟩)),some (.pointer (some ⟨rb,0,none⟩)),some (.pointer (some ⟨rb,0,none⟩)),some (.slice (some ⟨x,ox,none⟩) l.length cap),some (.int .i64 l.length),some (.bool true)]:List (Option Value)).getD j none) (fun _ _ _=>True) (by kernel_rfl) (by kernel_rfl) (by kernel_rfl) (by kernel_rfl) ?iY ?rsE ?iW
  case iY=>exact (Below.refl _ _).drew
  case rsE=>
   refine Reg.ah.plain rfl (fun T X hS hk K hK=>?_) ?_
   ·have g0:=hk.old 0 rfl
    have hK:=hK _ X hS (Reg.Is.aj rfl) (fun _ _ _ h=>h)
    clear hk
    go_simp
    exact hK
   refine Reg.ah.plain rfl (fun T X hS hk K hK=>?_) ?_
   ·have g9:=hk.val 0 9 rfl
    have hK:=hK _ X hS (Reg.Is.aj rfl) (fun _ _ _ h=>h)
    clear hk
    go_simp
    exact hK
   refine Reg.ah.plain rfl (fun T X hS hk K hK=>?_) ?_
   ·have g10:=hk.val 1 10 rfl
    have hK:=hK _ X hS (Reg.Is.aj rfl) (fun _ _ _ h=>h)
    clear hk
    go_simp
    exact hK
   refine Reg.ah.plain rfl (fun T X hS hk K hK=>?_) ?_
   ·have g11:=hk.val 2 11 rfl
    obtain ⟨e0,e1⟩:=HX.out X hS
    have hK:=hK _ X hS (Reg.Is.aj rfl) (fun _ _ _ h=>h)
    clear hk
    go_simp
    exact hK
   refine Reg.ah.plain rfl (fun T X hS hk K hK=>?_) ?_
   ·have g0:=hk.old 0 rfl
    have hK:=hK _ X hS (Reg.Is.aj rfl) (fun _ _ _ h=>h)
    clear hk
    go_simp
    exact hK
   refine Reg.ah.plain rfl (fun T X hS hk K hK=>?_) ?_
   ·have g13:=hk.val 4 13 rfl
    have hK:=hK _ X hS (Reg.Is.aj rfl) (fun _ _ _ h=>h)
    clear hk
    go_simp
    exact hK
   refine Reg.ah.plain rfl (fun T X hS hk K hK=>?_) ?_
   ·have g14:=hk.val 5 14 rfl
    have hK:=hK _ X hS (Reg.Is.aj rfl) (fun _ _ _ h=>h)
    clear hk
    go_simp
    exact hK
   refine Reg.ah.plain rfl (fun T X hS hk K hK=>?_) ?_
   ·have g15:=hk.val 6 15 rfl
    obtain ⟨e0,e1⟩:=HX.out X hS
    have hK:=hK _ X hS (Reg.Is.aj rfl) (fun _ _ _ h=>h)
    clear hk
    go_simp
    exact hK
   refine Reg.ah.plain rfl (fun T X hS hk K hK=>?_) ?_
   ·have g16:=hk.val 7 16 rfl
    have hK:=hK _ X hS (Reg.Is.aj rfl) (fun _ _ _ h=>h)
    clear hk
    go_simp
    exact hK
   refine Reg.ah.plain rfl (fun T X hS hk K hK=>?_) ?_
   ·have g12:=hk.val 3 12 rfl
    have g17:=hk.val 8 17 rfl
    have hK:=hK _ X hS (Reg.Is.aj rfl) (fun _ _ _ h=>h)
    clear hk
    go_simp
    exact hK
   exact Reg.ah.nil
  case iW=>
   intro u w3 hS hI
   have e0:u 0= .pointer (some ⟨rb,0,none⟩):=(hI 0 (by decide)).val rfl
   have e1:u 1= .pointer (some ⟨rb,0,none⟩):=(hI 1 (by decide)).val rfl
   have e2:u 2= .pointer (some ⟨rb,1,none⟩):=(hI 2 (by decide)).val rfl
   have e3:u 3= .int .i64 p:=(hI 3 (by decide)).val rfl
   have e4:u 4= .pointer (some ⟨rb,0,none⟩):=(hI 4 (by decide)).val rfl
   have e5:u 5= .pointer (some ⟨rb,0,none⟩):=(hI 5 (by decide)).val rfl
   have e6:u 6= .pointer (some ⟨rb,0,none⟩):=(hI 6 (by decide)).val rfl
   have e7:u 7= .slice (some ⟨x,ox,none⟩) l.length cap:=(hI 7 (by decide)).val rfl
   have e8:u 8= .int .i64 l.length:=(hI 8 (by decide)).val rfl
   have e9:u 9= .bool true:=(hI 9 (by decide)).val rfl
   clear hI
   simp only [Reg.aK,Act.put,List.setIfInBounds_toArray,List.set_cons_succ,List.set_cons_zero,Nat.zero_add,Nat.reduceAdd,e0,e1,e2,e3,e4,e5,e6,e7,e8,e9]
   clear e0 e1 e2 e3 e4 e5 e6 e7 e8 e9
   have HZ3:=Lib.hid hS
   clear hS
   go_wp2_with fail
   refine Reg.bI (fun X=>Below w1.heap.size w1 X) (fun j=>([some (.pointer (some ⟨rb,0,none⟩)),some (.pointer (some ⟨rb,0,none⟩)),some (.pointer (some ⟨rb,0,none⟩)),some (.slice (some ⟨x,ox,none⟩) l.length cap),some (.pointer (some ⟨rb,0,none⟩)),some (.pointer (some ⟨rb,0,none⟩)),some (.pointer (some ⟨rb,1,none⟩)),some (.int .i64 p),some (.slice (some ⟨x,ox+p,none⟩) (l.length - p) (cap - p)),some (.tuple #[.int .i64 vv,.int .i64 nn,.bool ob]),some (.tuple #[.int .i64 vv,.int .i64 nn,.bool ob]),some (.int .i64 vv),some (.int .i64 nn),some (.bool ob),some (.int .i64 vv),some (.int .i64 nn),some (.bool ob)]:List (Option Value)).getD j none) (fun _ _ _=>True) (by kernel_rfl) (by kernel_rfl) (by kernel_rfl) (by kernel_rfl) ?iY ?rsE ?iW
   case iY=>exact HZ3.out.drew
   case rsE=>
    refine Reg.ah.plain rfl (fun T X hS hk K hK=>?_) ?_
    ·have g0:=hk.old 0 rfl
     have hK:=hK _ X hS (Reg.Is.aj rfl) (fun _ _ _ h=>h)
     clear hk
     go_simp
     exact hK
    refine Reg.ah.plain rfl (fun T X hS hk K hK=>?_) ?_
    ·have g20:=hk.val 0 20 rfl
     have hK:=hK _ X hS (Reg.Is.aj rfl) (fun _ _ _ h=>h)
     clear hk
     go_simp
     exact hK
    refine Reg.ah.plain rfl (fun T X hS hk K hK=>?_) ?_
    ·have g21:=hk.val 1 21 rfl
     have hK:=hK _ X hS (Reg.Is.aj rfl) (fun _ _ _ h=>h)
     clear hk
     go_simp
     exact hK
    refine Reg.ah.plain rfl (fun T X hS hk K hK=>?_) ?_
    ·have g22:=hk.val 2 22 rfl
     obtain ⟨e0,e1⟩:=HX.out X hS
     have hK:=hK _ X hS (Reg.Is.aj rfl) (fun _ _ _ h=>h)
     clear hk
     go_simp
     exact hK
    refine Reg.ah.plain rfl (fun T X hS hk K hK=>?_) ?_
    ·have g0:=hk.old 0 rfl
     have hK:=hK _ X hS (Reg.Is.aj rfl) (fun _ _ _ h=>h)
     clear hk
     go_simp
     exact hK
    refine Reg.ah.plain rfl (fun T X hS hk K hK=>?_) ?_
    ·have g24:=hk.val 4 24 rfl
     have hK:=hK _ X hS (Reg.Is.aj rfl) (fun _ _ _ h=>h)
     clear hk
     go_simp
     exact hK
    refine Reg.ah.plain rfl (fun T X hS hk K hK=>?_) ?_
    ·have g25:=hk.val 5 25 rfl
     have hK:=hK _ X hS (Reg.Is.aj rfl) (fun _ _ _ h=>h)
     clear hk
     go_simp
     exact hK
    refine Reg.ah.plain rfl (fun T X hS hk K hK=>?_) ?_
    ·have g26:=hk.val 6 26 rfl
     obtain ⟨e0,e1⟩:=HX.out X hS
     have hK:=hK _ X hS (Reg.Is.aj rfl) (fun _ _ _ h=>h)
     clear hk
     go_simp
     exact hK
    refine Reg.ah.plain rfl (fun T X hS hk K hK=>?_) ?_
    ·have g23:=hk.val 3 23 rfl
     have g27:=hk.val 7 27 rfl
     have hK:=hK _ X hS (Reg.Is.aj rfl) (fun _ _ _ h=>h)
     clear hk
     go_simp
     exact hK
    refine Reg.ah.plain rfl (fun T X hS hk K hK=>?_) ?_
    ·have g28:=hk.val 8 28 rfl
     clear hk
     go_simp
     refine (Z8.out X hS).mono ?_
     rintro e w1 ⟨rfl,hb⟩
     exact hK _ _ (hb▸hS) (Reg.Is.aj rfl) (fun _ _ _ h=>h)
    refine Reg.ah.plain rfl (fun T X hS hk K hK=>?_) ?_
    ·have g29:=hk.val 9 29 rfl
     have hK:=hK _ X hS (Reg.Is.aj rfl) (fun _ _ _ h=>h)
     clear hk
     go_simp
     exact hK
    refine Reg.ah.plain rfl (fun T X hS hk K hK=>?_) ?_
    ·have g19:=hk.val 10 19 rfl
     have hK:=hK _ X hS (Reg.Is.aj rfl) (fun _ _ _ h=>h)
     clear hk
     go_simp
     exact hK
    refine Reg.ah.plain rfl (fun T X hS hk K hK=>?_) ?_
    ·have g19:=hk.val 10 19 rfl
     have hK:=hK _ X hS (Reg.Is.aj rfl) (fun _ _ _ h=>h)
     clear hk
     go_simp
     exact hK
    refine Reg.ah.plain rfl (fun T X hS hk K hK=>?_) ?_
    ·have g19:=hk.val 10 19 rfl
     have hK:=hK _ X hS (Reg.Is.aj rfl) (fun _ _ _ h=>h)
     clear hk
     go_simp
     exact hK
    refine Reg.ah.plain rfl (fun T X hS hk K hK=>?_) ?_
    ·have g30:=hk.val 11 30 rfl
     have hK:=hK _ X hS (Reg.Is.aj rfl) (fun _ _ _ h=>h)
     clear hk
     go_simp
     exact hK
    refine Reg.ah.plain rfl (fun T X hS hk K hK=>?_) ?_
    ·have g31:=hk.val 12 31 rfl
     have hK:=hK _ X hS (Reg.Is.aj rfl) (fun _ _ _ h=>h)
     clear hk
     go_simp
     exact hK
    refine Reg.ah.plain rfl (fun T X hS hk K hK=>?_) ?_
    ·have g32:=hk.val 13 32 rfl
     have hK:=hK _ X hS (Reg.Is.aj rfl) (fun _ _ _ h=>h)
     clear hk
     go_simp
     exact hK
    exact Reg.ah.nil
   case iW=>
    intro u w4 hS hI
    have e0:u 0= .pointer (some ⟨rb,0,none⟩):=(hI 0 (by decide)).val rfl
    have e1:u 1= .pointer (some ⟨rb,0,none⟩):=(hI 1 (by decide)).val rfl
    have e2:u 2= .pointer (some ⟨rb,0,none⟩):=(hI 2 (by decide)).val rfl
    have e3:u 3= .slice (some ⟨x,ox,none⟩) l.length cap:=(hI 3 (by decide)).val rfl
    have e4:u 4= .pointer (some ⟨rb,0,none⟩):=(hI 4 (by decide)).val rfl
    have e5:u 5= .pointer (some ⟨rb,0,none⟩):=(hI 5 (by decide)).val rfl
    have e6:u 6= .pointer (some ⟨rb,1,none⟩):=(hI 6 (by decide)).val rfl
    have e7:u 7= .int .i64 p:=(hI 7 (by decide)).val rfl
    have e8:u 8= .slice (some ⟨x,ox+p,none⟩) (l.length - p) (cap - p):=(hI 8 (by decide)).val rfl
    have e9:u 9= .tuple #[.int .i64 vv,.int .i64 nn,.bool ob]:=(hI 9 (by decide)).val rfl
    have e10:u 10= .tuple #[.int .i64 vv,.int .i64 nn,.bool ob]:=(hI 10 (by decide)).val rfl
    have e11:u 11= .int .i64 vv:=(hI 11 (by decide)).val rfl
    have e12:u 12= .int .i64 nn:=(hI 12 (by decide)).val rfl
    have e13:u 13= .bool ob:=(hI 13 (by decide)).val rfl
    have e14:u 14= .int .i64 vv:=(hI 14 (by decide)).val rfl
    have e15:u 15= .int .i64 nn:=(hI 15 (by decide)).val rfl
    have e16:u 16= .bool ob:=(hI 16 (by decide)).val rfl
    clear hI
    simp only [Reg.aK,Act.put,List.setIfInBounds_toArray,List.set_cons_succ,List.set_cons_zero,Nat.zero_add,Nat.reduceAdd,e0,e1,e2,e3,e4,e5,e6,e7,e8,e9,e10,e11,e12,e13,e14,e15,e16]
    clear e0 e1 e2 e3 e4 e5 e6 e7 e8 e9 e10 e11 e12 e13 e14 e15 e16
    have RH:=Lib.hid hS
    clear hS
    by_cases hn:0<nn
    ·have hni:(0:Int)<nn:=by omega
     cases ob
     ·have HF:=Lib.hid (wG (HR1.out.next RH.out) 3 p (by decide))
      have SL:=Lib.hid ((RH.out.block _ (lt_of_heap Dz.out)).trans Dz.out)
      have YN:=Lib.hid (ou.out.step RH.out (Nat.le_of_lt HR1.out.lt))
      obtain ⟨e0,e1⟩:=HX.out w4 RH.out
      go_wp2_with fail
      refine HF.out.mono ?_
      rintro x2 wf ⟨rfl,hrf,hcf⟩
      have VL:=Lib.hid hrf
      have SN:=Lib.hid ((hcf.2 _ (lt_of_heap SL.out) (by omega)).trans SL.out)
      have NI:=Lib.hid (YN.out.trans hcf)
      clear hrf hcf HF
      go_wp2_with (first | (refine wpList_buildTo rfl 30 _ rfl _ rfl _ ZY.out ?_) | (refine aC rfl _ _ rfl rfl w.heap.size ⟨#[]⟩ 0 ⟨#[]⟩ 0 0 (.slice none 0 0) rfl rfl rfl _ SN.out rfl ?_) | fail)
      refine bodyPost_ret (aI rfl _ _ w.heap.size _ rfl (setRow_self SN.out _) rfl) rfl ⟨rfl,?_,hc0,NI.out.eY (Nat.le_refl _) hrw _⟩
      have hcd:=vH.out
      rw [if_neg (by simp)] at hcd
      subst hcd
      exact VL.out.eY (fun _=>HSL.out) NI.out hrw (Nat.le_refl _) _
     ·have HF:=Lib.hid (wG (HR1.out.next RH.out) 6 p (by decide))
      have SL:=Lib.hid ((RH.out.block _ (lt_of_heap Dz.out)).trans Dz.out)
      have YN:=Lib.hid (ou.out.step RH.out (Nat.le_of_lt HR1.out.lt))
      obtain ⟨e0,e1⟩:=HX.out w4 RH.out
      go_wp2_with fail
      refine HF.out.mono ?_
      rintro x2 wf ⟨rfl,hrf,hcf⟩
      have VL:=Lib.hid hrf
      have SN:=Lib.hid ((hcf.2 _ (lt_of_heap SL.out) (by omega)).trans SL.out)
      have NI:=Lib.hid (YN.out.trans hcf)
      clear hrf hcf HF
      go_wp2_with (first | (refine wpList_buildTo rfl 30 _ rfl _ rfl _ ZY.out ?_) | (refine aC rfl _ _ rfl rfl w.heap.size ⟨#[]⟩ 0 ⟨#[]⟩ 0 0 (.slice none 0 0) rfl rfl rfl _ SN.out rfl ?_) | fail)
      refine bodyPost_ret (aI rfl _ _ w.heap.size _ rfl (setRow_self SN.out _) rfl) rfl ⟨rfl,?_,hc0,NI.out.eY (Nat.le_refl _) hrw _⟩
      have hcd:=vH.out
      rw [if_pos ⟨hn,by simp⟩] at hcd
      subst hcd
      exact VL.out.eY (fun _=>HSL.out) NI.out hrw (Nat.le_refl _) _
    ·have hni: ¬(0:Int)<nn:=by omega
     skip
     have HF:=Lib.hid (wG (HR1.out.next RH.out) 3 p (by decide))
     have SL:=Lib.hid ((RH.out.block _ (lt_of_heap Dz.out)).trans Dz.out)
     have YN:=Lib.hid (ou.out.step RH.out (Nat.le_of_lt HR1.out.lt))
     obtain ⟨e0,e1⟩:=HX.out w4 RH.out
     go_wp2_with fail
     refine HF.out.mono ?_
     rintro x2 wf ⟨rfl,hrf,hcf⟩
     have VL:=Lib.hid hrf
     have SN:=Lib.hid ((hcf.2 _ (lt_of_heap SL.out) (by omega)).trans SL.out)
     have NI:=Lib.hid (YN.out.trans hcf)
     clear hrf hcf HF
     go_wp2_with (first | (refine wpList_buildTo rfl 30 _ rfl _ rfl _ ZY.out ?_) | (refine aC rfl _ _ rfl rfl w.heap.size ⟨#[]⟩ 0 ⟨#[]⟩ 0 0 (.slice none 0 0) rfl rfl rfl _ SN.out rfl ?_) | fail)
     refine bodyPost_ret (aI rfl _ _ w.heap.size _ rfl (setRow_self SN.out _) rfl) rfl ⟨rfl,?_,hc0,NI.out.eY (Nat.le_refl _) hrw _⟩
     have hcd:=vH.out
     rw [if_neg (fun h=>hn h.1)] at hcd
     subst hcd
     exact VL.out.eY (fun _=>HSL.out) NI.out hrw (Nat.le_refl _) _
 ·obtain ⟨aa,cap,rfl⟩:=HR1.out.shape
  have uF: ¬(p:Int)<l.length:=by omega
  have hdec:decide ((p:Int)<l.length)=false:=by simpa using uF
  have hcN:cN (l.drop p)=0:=by rw [List.drop_eq_nil_of_le (by omega)];exact vF (fun x m e=>by cases e)
  refine Reg.bI (fun X=>Below w1.heap.size w1 X) (fun j=>([some (.pointer (some ⟨rb,0,none⟩)),some (.pointer (some ⟨rb,0,none⟩)),some (.pointer (some ⟨rb,1,none⟩)),some (.int .i64 p),some (.pointer (some ⟨rb,0,none⟩)),some (.pointer (some ⟨rb,0,none⟩)),some (.pointer (some ⟨rb,0,none⟩)),some (.slice aa l.length cap),some (.int .i64 l.length),some (.bool false)]:List (Option Value)).getD j none) (fun _ _ _=>True) (by kernel_rfl) (by kernel_rfl) (by kernel_rfl) (by kernel_rfl) ?iY ?rsE ?iW
  case iY=>exact (Below.refl _ _).drew
  case rsE=>
   refine Reg.ah.plain rfl (fun T X hS hk K hK=>?_) ?_
   ·have g0:=hk.old 0 rfl
    have hK:=hK _ X hS (Reg.Is.aj rfl) (fun _ _ _ h=>h)
    clear hk
    go_simp
    exact hK
   refine Reg.ah.plain rfl (fun T X hS hk K hK=>?_) ?_
   ·have g9:=hk.val 0 9 rfl
    have hK:=hK _ X hS (Reg.Is.aj rfl) (fun _ _ _ h=>h)
    clear hk
    go_simp
    exact hK
   refine Reg.ah.plain rfl (fun T X hS hk K hK=>?_) ?_
   ·have g10:=hk.val 1 10 rfl
    have hK:=hK _ X hS (Reg.Is.aj rfl) (fun _ _ _ h=>h)
    clear hk
    go_simp
    exact hK
   refine Reg.ah.plain rfl (fun T X hS hk K hK=>?_) ?_
   ·have g11:=hk.val 2 11 rfl
    obtain ⟨e0,e1⟩:=HX.out X hS
    have hK:=hK _ X hS (Reg.Is.aj rfl) (fun _ _ _ h=>h)
    clear hk
    go_simp
    exact hK
   refine Reg.ah.plain rfl (fun T X hS hk K hK=>?_) ?_
   ·have g0:=hk.old 0 rfl
    have hK:=hK _ X hS (Reg.Is.aj rfl) (fun _ _ _ h=>h)
    clear hk
    go_simp
    exact hK
   refine Reg.ah.plain rfl (fun T X hS hk K hK=>?_) ?_
   ·have g13:=hk.val 4 13 rfl
    have hK:=hK _ X hS (Reg.Is.aj rfl) (fun _ _ _ h=>h)
    clear hk
    go_simp
    exact hK
   refine Reg.ah.plain rfl (fun T X hS hk K hK=>?_) ?_
   ·have g14:=hk.val 5 14 rfl
    have hK:=hK _ X hS (Reg.Is.aj rfl) (fun _ _ _ h=>h)
    clear hk
    go_simp
    exact hK
   refine Reg.ah.plain rfl (fun T X hS hk K hK=>?_) ?_
   ·have g15:=hk.val 6 15 rfl
    obtain ⟨e0,e1⟩:=HX.out X hS
    have hK:=hK _ X hS (Reg.Is.aj rfl) (fun _ _ _ h=>h)
    clear hk
    go_simp
    exact hK
   refine Reg.ah.plain rfl (fun T X hS hk K hK=>?_) ?_
   ·have g16:=hk.val 7 16 rfl
    have hK:=hK _ X hS (Reg.Is.aj rfl) (fun _ _ _ h=>h)
    clear hk
    go_simp
    exact hK
   refine Reg.ah.plain rfl (fun T X hS hk K hK=>?_) ?_
   ·have g12:=hk.val 3 12 rfl
    have g17:=hk.val 8 17 rfl
    have hK:=hK _ X hS (Reg.Is.aj rfl) (fun _ _ _ h=>h)
    clear hk
    go_simp
    exact hK
   exact Reg.ah.nil
  case iW=>
   intro u w3 hS hI
   have e0:u 0= .pointer (some ⟨rb,0,none⟩):=(hI 0 (by decide)).val rfl
   have e1:u 1= .pointer (some ⟨rb,0,none⟩):=(hI 1 (by decide)).val rfl
   have e2:u 2= .pointer (some ⟨rb,1,none⟩):=(hI 2 (by decide)).val rfl
   have e3:u 3= .int .i64 p:=(hI 3 (by decide)).val rfl
   have e4:u 4= .pointer (some ⟨rb,0,none⟩):=(hI 4 (by decide)).val rfl
   have e5:u 5= .pointer (some ⟨rb,0,none⟩):=(hI 5 (by decide)).val rfl
   have e6:u 6= .pointer (some ⟨rb,0,none⟩):=(hI 6 (by decide)).val rfl
   have e7:u 7= .slice aa l.length cap:=(hI 7 (by decide)).val rfl
   have e8:u 8= .int .i64 l.length:=(hI 8 (by decide)).val rfl
   have e9:u 9= .bool false:=(hI 9 (by decide)).val rfl
   clear hI
   simp only [Reg.aK,Act.put,List.setIfInBounds_toArray,List.set_cons_succ,List.set_cons_zero,Nat.zero_add,Nat.reduceAdd,e0,e1,e2,e3,e4,e5,e6,e7,e8,e9]
   clear e0 e1 e2 e3 e4 e5 e6 e7 e8 e9
   have HZ3:=Lib.hid hS
   clear hS
   have HF:=Lib.hid (wG (HR1.out.next HZ3.out) 3 p (by decide))
   have SL:=Lib.hid ((HZ3.out.block _ (lt_of_heap Dz.out)).trans Dz.out)
   have YN:=Lib.hid (ou.out.step HZ3.out (Nat.le_of_lt HR1.out.lt))
   obtain ⟨e0,e1⟩:=HX.out w3 HZ3.out
   go_wp2_with fail
   refine HF.out.mono ?_
   rintro x2 wf ⟨rfl,hrf,hcf⟩
   have VL:=Lib.hid hrf
   have SN:=Lib.hid ((hcf.2 _ (lt_of_heap SL.out) (by omega)).trans SL.out)
   have NI:=Lib.hid (YN.out.trans hcf)
   clear hrf hcf HF
   go_wp2_with (first | (refine wpList_buildTo rfl 30 _ rfl _ rfl _ ZY.out ?_) | (refine aC rfl _ _ rfl rfl w.heap.size ⟨#[]⟩ 0 ⟨#[]⟩ 0 0 (.slice none 0 0) rfl rfl rfl _ SN.out rfl ?_) | fail)
   refine bodyPost_ret (aI rfl _ _ w.heap.size _ rfl (setRow_self SN.out _) rfl) rfl ⟨rfl,?_,hc0,NI.out.eY (Nat.le_refl _) hrw _⟩
   have hcd:=vH.out
   rw [if_neg (fun h=>by omega)] at hcd
   subst hcd
   exact VL.out.eY (fun _=>HSL.out) NI.out hrw (Nat.le_refl _) _
theorem Dp.row {l:List Int} {bv:Value} {rb n lo n0 Yx:Nat} {r:Rs} {y:Tr} {kv:Value} {w w':World} (h:Dp l bv rb n lo r y kv w') (hs:Sl w bv l) (hap: ∀x o n cap,bv= .slice (some ⟨x,o,none⟩) n cap→l=[]∨x≠rb) (hc:Ch rb w w') (hr:rb<w.heap.size) {g:Nat} (hg:w.heap.size≤g) (hgl:g<lo) (hlo:Yx≤lo) (hn:n≤n0) (c:Array Value):Dp l bv rb n0 Yx r y kv (w'.setRow g c):=
 h.move (by
  show (w'.heap.modify g _)[rb]? =_
  rw [Array.getElem?_modify,if_neg (by omega)]) (mW hs hap (hc.eY hg hr c)) (fun k hk _=>by
  show (w'.heap.modify g _)[k]? =_
  rw [Array.getElem?_modify,if_neg (by omega)]) hlo hn
theorem NR {l:List Int} {bv:Value} {rb n k:Nat} {res:Rs} {w:World} (ih:Bh l bv rb n) (hcd:rd l n .cond (tok l k)=some res) (hkd:fC (l.drop (ay l k))=0) (h:gU l bv rb k 0 0 w) (hk:k≤l.length):
  Calls Tryz.prog 41 #[.pointer (some ⟨rb,0,none⟩)] w fun e w'=>Ak l bv rb (n+1) w.heap.size res e w'∧Ch rb w w':=by
 rw [←kS] at hcd
 have hp:=bJ l k hk
 have hrw:=h.lt
 have hll:=h.len
 have HS:=Lib.hid h.sl
 have yx:=Lib.hid h.ap
 obtain ⟨aa,cap,hbv,hcl⟩:=h.sh
 obtain ⟨W,hW⟩: ∃W,W=w.alloc dw:=⟨_,rfl⟩
 have HB0:Hid (Below w.heap.size w W):=Lib.hid (by rw [hW];exact (Below.refl _ _).alloc (Nat.le_refl _) _)
 have ql:Hid (Kp rb w W [(w.heap.size,dw)]):=Lib.hid (by rw [hW];exact Kp.start rb w hrw dw)
 have lM:=Lib.hid (qJ (h.next HB0.out))
 have dR:=Lib.hid hW
 clear hW h
 obtain ⟨p,hpe⟩: ∃p,ay l k=p:=⟨_,rfl⟩
 rw [hpe] at lM hp hcd hkd
 have Js:=Lib.hid hpe
 clear hpe
 have xk:Hid (∀X,Sl X bv l→Calls Tryz.prog 55 #[.slice (kM aa cap p) (l.length - p) (cap - p)] X fun e w'=>e= .returned (.int .i64 (fC (l.drop p)))∧X=w'):=Lib.hid fun X hX=>iP _ _ _ (by rw [hbv] at hX;exact hX.rU p hp)
 have ZU:(if cap=p then aa else Option.map (fun x=>x.add p) aa)=kM aa cap p:=rfl
 have hpc:p≤cap:=by omega
 subst hbv
 generalize kM aa cap p=d at*
 generalize fC (l.drop p)=nn at*
 subst hkd
 unfold dw at dR
 go_enter Tryz.func41,Tryz.ntmps41
 go_upto_region 1 with fail
 rw [←dR.out]
 go_wp2_with fail
 refine lM.out.mono ?_
 rintro x w1 ⟨rfl,hr1,hc1⟩
 have HR1:=Lib.hid hr1
 have K1:=Lib.hid (ql.out.next hrw hc1)
 clear hr1 hc1 lM
 obtain ⟨e0,e1,_,_,_⟩:=HR1.out.cells
 go_wp2_with fail
 refine (xk.out _ HR1.out.sl).mono ?_
 rintro x w1' ⟨rfl,rfl⟩
 have Z8:=Lib.hid (ih.cond p res _ hcd HR1.out hp)
 go_wp2_with fail
 refine Z8.out.mono ?_
 rintro x w9 ⟨⟨y,oa,na,rfl,hq⟩,hch⟩
 have K9:=Lib.hid (K1.out.next hrw hch)
 have HQ:=Lib.hid hq
 have hlo:=lt_of_heap (K1.out.at (List.mem_cons_self ..))
 have jI:=Lib.hid (K9.out.at (List.mem_cons_self ..))
 clear hch hq
 unfold dw at jI
 go_wp2_with (first | (refine aC rfl _ _ rfl rfl w.heap.size y.op y.val y.nm y.pos y.aG (.slice oa na na) rfl rfl rfl _ jI.out rfl ?_) | fail)
 exact bodyPost_ret (aI rfl _ _ w.heap.size _ rfl (setRow_self jI.out _) rfl) rfl ⟨⟨y,oa,na,rfl,HQ.out.row HS.out yx.out K9.out.ch hrw (Nat.le_refl _) hlo (Nat.le_of_lt hlo) (Nat.le_succ _) _⟩,K9.out.ch.eY (Nat.le_refl _) hrw _⟩
theorem NS {l:List Int} {bv:Value} {rb n k:Nat} {res:Rs} {w:World} (ih:Bh l bv rb n) (hcd:rd l n .cond (tok l k)=some res) (hkd:0<fC (l.drop (ay l k))) (has:fZ (fB l (ay l k+fC (l.drop (ay l k))))=false) (h:gU l bv rb k 0 0 w) (hk:k≤l.length):
  Calls Tryz.prog 41 #[.pointer (some ⟨rb,0,none⟩)] w fun e w'=>Ak l bv rb (n+1) w.heap.size res e w'∧Ch rb w w':=by
 rw [←kS] at hcd
 have hnl:=rE (l.drop (ay l k))
 rw [List.length_drop] at hnl
 have hp:=bJ l k hk
 have hrw:=h.lt
 have hll:=h.len
 have HS:=Lib.hid h.sl
 have yx:=Lib.hid h.ap
 obtain ⟨aa,cap,hbv,hcl⟩:=h.sh
 obtain ⟨W,hW⟩: ∃W,W=w.alloc dw:=⟨_,rfl⟩
 have HB0:Hid (Below w.heap.size w W):=Lib.hid (by rw [hW];exact (Below.refl _ _).alloc (Nat.le_refl _) _)
 have ql:Hid (Kp rb w W [(w.heap.size,dw)]):=Lib.hid (by rw [hW];exact Kp.start rb w hrw dw)
 have lM:=Lib.hid (qJ (h.next HB0.out))
 have dR:=Lib.hid hW
 clear hW h
 obtain ⟨p,hpe⟩: ∃p,ay l k=p:=⟨_,rfl⟩
 rw [hpe] at lM hp hcd hkd hnl has
 have Js:=Lib.hid hpe
 clear hpe
 have xk:Hid (∀X,Sl X bv l→Calls Tryz.prog 55 #[.slice (kM aa cap p) (l.length - p) (cap - p)] X fun e w'=>e= .returned (.int .i64 (fC (l.drop p)))∧X=w'):=Lib.hid fun X hX=>iP _ _ _ (by rw [hbv] at hX;exact hX.rU p hp)
 have ZU:(if cap=p then aa else Option.map (fun x=>x.add p) aa)=kM aa cap p:=rfl
 have hpc:p≤cap:=by omega
 subst hbv
 generalize kM aa cap p=d at*
 generalize fC (l.drop p)=nn at*
 have HAS:=Lib.hid has
 have VN:Hid (p+nn≤l.length∧0<nn):=Lib.hid ⟨by omega,hkd⟩
 clear has hnl hkd
 unfold dw at dR
 go_enter Tryz.func41,Tryz.ntmps41
 go_upto_region 1 with fail
 rw [←dR.out]
 go_wp2_with fail
 refine lM.out.mono ?_
 rintro x w1 ⟨rfl,hr1,hc1⟩
 have HR1:=Lib.hid hr1
 have K1:=Lib.hid (ql.out.next hrw hc1)
 clear hr1 hc1 lM
 obtain ⟨e0,e1,_,_,_⟩:=HR1.out.cells
 go_wp2_with fail
 refine (xk.out _ HR1.out.sl).mono ?_
 rintro x w1' ⟨rfl,rfl⟩
 have hnl:=VN.out.1
 have hkd:=VN.out.2
 have hz:(0:Int)<nn:=by omega
 have hzd:decide ((0:Int)<nn)=true:=by simpa using hz
 have f1:=HR1.out.fr 1
 have HR2:Hid (gU l (.slice aa l.length cap) rb (p+nn) 0 0 (w1.setCell ⟨rb,1,none⟩ (.int .i64 ((p:Int)+(nn:Int))))):=Lib.hid (HR1.out.rD (p+nn) (by omega))
 have K2:Hid (Kp rb w (w1.setCell ⟨rb,1,none⟩ (.int .i64 ((p:Int)+(nn:Int)))) [(w.heap.size,dw)]):=Lib.hid (K1.out.next hrw (Ch.set _ _ _))
 have jK:=Lib.hid (fK HR2.out)
 go_wp2_with fail
 refine jK.out.mono ?_
 rintro x w3 ⟨rfl,hr3,hc3⟩
 have HR3:=Lib.hid hr3
 have K3:=Lib.hid (K2.out.next hrw hc3)
 clear hr3 hc3 jK HR2 K2 e0 e1 f1
 have Qw:=Lib.hid (uI _ (IX l (p+nn)) w3)
 rw [HAS.out] at Qw
 go_wp2_with fail
 refine Qw.out.mono ?_
 rintro x w3' ⟨rfl,rfl⟩
 obtain ⟨e0,e1,_,_,_⟩:=HR3.out.cells
 have f1:=HR3.out.fr 1
 have HR4:Hid (gU l (.slice aa l.length cap) rb p 0 0 (w3'.setCell ⟨rb,1,none⟩ (.int .i64 (p:Nat)))):=Lib.hid (HR3.out.rD p (by omega))
 have K4:Hid (Kp rb w (w3'.setCell ⟨rb,1,none⟩ (.int .i64 (p:Nat))) [(w.heap.size,dw)]):=Lib.hid (K3.out.next hrw (Ch.set _ _ _))
 have Z8:=Lib.hid (ih.cond p res _ hcd HR4.out hp)
 go_wp2_with fail
 refine Z8.out.mono ?_
 rintro x w9 ⟨⟨y,oa,na,rfl,hq⟩,hch⟩
 have K9:=Lib.hid (K4.out.next hrw hch)
 have HQ:=Lib.hid hq
 have hlo:=lt_of_heap (K4.out.at (List.mem_cons_self ..))
 have jI:=Lib.hid (K9.out.at (List.mem_cons_self ..))
 clear hch hq
 unfold dw at jI
 go_wp2_with (first | (refine aC rfl _ _ rfl rfl w.heap.size y.op y.val y.nm y.pos y.aG (.slice oa na na) rfl rfl rfl _ jI.out rfl ?_) | fail)
 exact bodyPost_ret (aI rfl _ _ w.heap.size _ rfl (setRow_self jI.out _) rfl) rfl ⟨⟨y,oa,na,rfl,HQ.out.row HS.out yx.out K9.out.ch hrw (Nat.le_refl _) hlo (Nat.le_of_lt hlo) (Nat.le_succ _) _⟩,K9.out.ch.eY (Nat.le_refl _) hrw _⟩
theorem Ea {l:List Int} {x ox cap rb:Nat} {w W:World} (hs:Sl w (.slice (some ⟨x,ox,none⟩) l.length cap) l) (hne:x≠rb) (hc:Ch rb w W) (hb: ∃k c q,W.heap[rb]? =some (.cells (Nj (.slice (some ⟨x,ox,none⟩) l.length cap) k c q) 81 (0,0))) (p nn:Nat) (hpn:p+nn≤l.length) (h0:0<nn):
  W.cell? ⟨rb,0,none⟩=some (.slice (some ⟨x,ox,none⟩) l.length cap)∧(convert 22 9 (.slice (some ⟨x,ox+p,none⟩) nn (cap - p))).run Tryz.prog W= .ok (.string (dI ((l.drop p).take nn))) W:=by
 obtain ⟨k,c,q,hb⟩:=hb
 refine ⟨(Lib.cell_of_heap hb 0).trans rfl,?_⟩
 have hS:=mW hs (fun x' o' n' cap' e=>Or.inr (by simp only [Value.slice.injEq,Option.some.injEq,Addr.mk.injEq] at e;omega)) hc
 have hF:=hS.rU p (by omega)
 have hcl:l.length≤cap:=by
  rcases hS.2.2 with ⟨rfl,_⟩ | ⟨b,o,cap',he,h1,h2,h3⟩
  ·simp at hpn;omega
  ·simp only [Value.slice.injEq] at he
   omega
 have e:kM (some ⟨x,ox,none⟩) cap p=some ⟨x,ox+p,none⟩:=by unfold kM;rw [if_neg (by omega)];simp [WideShapes.add_plain]
 rw [e] at hF
 exact jY (hF.uptoR nn (by rw [List.length_drop];omega))
theorem Kp.iJ {rb:Nat} {w W:World} {g:Nat} {o:Obj} {L:List (Nat × Obj)} (h:Kp rb w W ((g,o)::L)):W.heap[g]? =some o:=h.at (List.mem_cons_self ..)
theorem Kp.drew {rb:Nat} {w W:World} {L:List (Nat × Obj)} (h:Kp rb w W L):Kp rb w W.drew L:=⟨qX h.ch,h.all⟩
theorem Vh {bv:Value} {rb:Nat} {w:World} (h: ∃k c q,w.heap[rb]? =some (.cells (Nj bv k c q) 81 (0,0))) (o:Obj): ∃k c q,(w.alloc o).heap[rb]? =some (.cells (Nj bv k c q) 81 (0,0)):=by
 obtain ⟨k,c,q,h⟩:=h
 exact ⟨k,c,q,aN h o⟩
theorem XV {bv:Value} {rb:Nat} {w:World} (h: ∃k c q,w.heap[rb]? =some (.cells (Nj bv k c q) 81 (0,0))) {g:Nat} (hg:rb≠g) (v0 v1 v2 v3 v4 v5:Value): ∃k c q,(jJ w g v0 v1 v2 v3 v4 v5).heap[rb]? =some (.cells (Nj bv k c q) 81 (0,0)):=by
 obtain ⟨k,c,q,h⟩:=h
 exact ⟨k,c,q,(bg _ _ _ _ _ _ _ _ _ hg).trans h⟩
theorem Dp.eF {l:List Int} {bv:Value} {rb n lo b:Nat} {r:Rs} {y:Tr} {kv:Value} {w:World} (h:Dp l bv rb n lo r y kv w) (hb:w.heap[b]? =some (.cells #[.string y.op,.int .i64 y.val,.string y.nm,.int .i64 y.pos,.int .i64 y.aG,kv] 30)) (hlo:lo≤b) (op nm:ByteArray) (p q:Nat):Dp l bv rb n lo (r.map (.eF op nm p q)) (.eF op nm p q y) (.slice (some ⟨b,0,none⟩) 1 1) w:=by
 cases r with
 | ok t nx=>
  obtain ⟨rfl,hi,hk⟩:=h
  exact ⟨rfl,⟨b,kv,rfl,hlo,hb,hi⟩,hk⟩
 | bad c q=>exact h
theorem MS {l:List Int} {bv:Value} {rb n k:Nat} {res:Rs} {w:World} (ih:Bh l bv rb n) (hex:rd l n .expr (tok l (ay l (ay l k+fC (l.drop (ay l k)))+(fB l (ay l k+fC (l.drop (ay l k)))).size))=some res) (hkd:0<fC (l.drop (ay l k))) (has:fZ (fB l (ay l k+fC (l.drop (ay l k))))=true) (h:gU l bv rb k 0 0 w) (hk:k≤l.length):
  Calls Tryz.prog 41 #[.pointer (some ⟨rb,0,none⟩)] w fun e w'=>Ak l bv rb (n+1) w.heap.size (res.map (.eF (fB l (ay l k+fC (l.drop (ay l k)))) (dI ((l.drop (ay l k)).take (fC (l.drop (ay l k))))) (ay l k) (ay l (ay l k+fC (l.drop (ay l k)))))) e w'∧Ch rb w w':=by
 have hnl:=rE (l.drop (ay l k))
 rw [List.length_drop] at hnl
 have hp:=bJ l k hk
 have hrw:=h.lt
 have hll:=h.len
 have HS:=Lib.hid h.sl
 have yx:=Lib.hid h.ap
 obtain ⟨aa,cap,hbv,hcl⟩:=h.sh
 obtain ⟨W,hW⟩: ∃W,W=w.alloc dw:=⟨_,rfl⟩
 have HB0:Hid (Below w.heap.size w W):=Lib.hid (by rw [hW];exact (Below.refl _ _).alloc (Nat.le_refl _) _)
 have ql:Hid (Kp rb w W [(w.heap.size,dw)]):=Lib.hid (by rw [hW];exact Kp.start rb w hrw dw)
 have lM:=Lib.hid (qJ (h.next HB0.out))
 have dR:=Lib.hid hW
 clear hW h
 obtain ⟨p,hpe⟩: ∃p,ay l k=p:=⟨_,rfl⟩
 rw [hpe] at lM hp hex hkd hnl has⊢
 have Js:=Lib.hid hpe
 clear hpe
 have xk:Hid (∀X,Sl X bv l→Calls Tryz.prog 55 #[.slice (kM aa cap p) (l.length - p) (cap - p)] X fun e w'=>e= .returned (.int .i64 (fC (l.drop p)))∧X=w'):=Lib.hid fun X hX=>iP _ _ _ (by rw [hbv] at hX;exact hX.rU p hp)
 have ZU:(if cap=p then aa else Option.map (fun x=>x.add p) aa)=kM aa cap p:=rfl
 have hpc:p≤cap:=by omega
 subst hbv
 generalize kM aa cap p=d at*
 generalize fC (l.drop p)=nn at*
 have HAS:=Lib.hid has
 have VN:Hid (p+nn≤l.length∧0<nn):=Lib.hid ⟨by omega,hkd⟩
 clear has hnl hkd
 have IJ:=bJ l (p+nn) VN.out.1
 have hst:=gQ l (p+nn) VN.out.1
 have hs3:=OQ l (p+nn)
 obtain ⟨s,hse⟩: ∃s,fB l (p+nn)=s:=⟨_,rfl⟩
 obtain ⟨q,hqe⟩: ∃q,ay l (p+nn)=q:=⟨_,rfl⟩
 obtain ⟨nm,hnm⟩: ∃nm,dI ((l.drop p).take nn)=nm:=⟨_,rfl⟩
 rw [hse,hqe] at hex hst⊢
 rw [hqe] at IJ
 rw [hse] at hs3
 rw [hnm]
 have HSE:=Lib.hid hse
 have NG:=Lib.hid hqe
 have HNE:=Lib.hid hnm
 have HST:=Lib.hid (And.intro IJ (And.intro hst hs3))
 clear hse hqe hnm IJ hst hs3
 unfold dw at dR
 go_enter Tryz.func41,Tryz.ntmps41
 go_upto_region 1 with fail
 rw [←dR.out]
 go_wp2_with fail
 refine lM.out.mono ?_
 rintro x w1 ⟨rfl,hr1,hc1⟩
 have HR1:=Lib.hid hr1
 have K1:=Lib.hid (ql.out.next hrw hc1)
 clear hr1 hc1 lM
 obtain ⟨e0,e1,_,_,_⟩:=HR1.out.cells
 go_wp2_with fail
 refine (xk.out _ HR1.out.sl).mono ?_
 rintro x w1' ⟨rfl,rfl⟩
 have hnl:=VN.out.1
 have hkd:=VN.out.2
 have hz:(0:Int)<nn:=by omega
 have hzd:decide ((0:Int)<nn)=true:=by simpa using hz
 have f1:=HR1.out.fr 1
 have HR2:Hid (gU l (.slice aa l.length cap) rb (p+nn) 0 0 (w1.setCell ⟨rb,1,none⟩ (.int .i64 ((p:Int)+(nn:Int))))):=Lib.hid (HR1.out.rD (p+nn) (by omega))
 have K2:Hid (Kp rb w (w1.setCell ⟨rb,1,none⟩ (.int .i64 ((p:Int)+(nn:Int)))) [(w.heap.size,dw)]):=Lib.hid (K1.out.next hrw (Ch.set _ _ _))
 have jK:=Lib.hid (fK HR2.out)
 go_wp2_with fail
 refine jK.out.mono ?_
 rintro x w3 ⟨rfl,hr3,hc3⟩
 have HR3:=Lib.hid hr3
 have K3:=Lib.hid (K2.out.next hrw hc3)
 clear hr3 hc3 jK HR2 K2 e0 e1 f1
 have Qw:=Lib.hid (uI _ (IX l (p+nn)) w3)
 rw [HAS.out] at Qw
 obtain ⟨IJ,hst,hs3⟩:=HST.out
 rw [HSE.out] at Qw
 rw [NG.out] at HR3
 rw [HSE.out]
 obtain ⟨x,ox,cap',hbv,hcl',hcm,hrow,hne⟩:=HR3.out.row (show p<l.length by omega)
 simp only [Value.slice.injEq] at hbv
 obtain ⟨rfl,_,rfl⟩:=hbv
 clear hrow hcl'
 go_wp2_with fail
 refine Qw.out.mono ?_
 rintro x2 w3' ⟨rfl,rfl⟩
 obtain ⟨e0,e1,_,_,_⟩:=HR3.out.cells
 have f1:=HR3.out.fr 1
 have HR4:Hid (gU l (.slice (some ⟨x,ox,none⟩) l.length cap) rb (q+s.size) 0 0 (w3'.setCell ⟨rb,1,none⟩ (.int .i64 ((q:Int)+(s.size:Int))))):=Lib.hid (HR3.out.rD (q+s.size) (by omega))
 have K4:Hid (Kp rb w (w3'.setCell ⟨rb,1,none⟩ (.int .i64 ((q:Int)+(s.size:Int)))) [(w.heap.size,dw)]):=Lib.hid (K3.out.next hrw (Ch.set _ _ _))
 go_wp2_with fail
 generalize N8:w3'.setCell ⟨rb,1,none⟩ (.int .i64 ((q:Int)+(s.size:Int)))=w4 at*
 clear N8 e0 e1 f1 HR3 K3 HR1 K1 ql
 have HEX:=Lib.hid (ih.expr (q+s.size) res w4.drew hex ⟨HR4.out.blk,HR4.out.sl,HR4.out.len,HR4.out.hi,HR4.out.ap⟩ hst)
 have hcp: ¬cap=p:=by omega
 obtain ⟨pe,hpe⟩: ∃pe,pe=p+nn:=⟨_,rfl⟩
 have hwa:IntKind.i64.wrap ((p:Int)+(nn:Int))=(pe:Int):=by rw [IntKind.wrap_i64];omega
 have hpe1:p≤pe:=by omega
 have hpe2:pe≤cap:=by omega
 have hpe3:pe - p=nn:=by omega
 have HF:Hid (∀X,Ch rb w X→(∃k c q,X.heap[rb]? =some (.cells (Nj (.slice (some ⟨x,ox,none⟩) l.length cap) k c q) 81 (0,0)))→X.cell? ⟨rb,0,none⟩=some (.slice (some ⟨x,ox,none⟩) l.length cap)∧(convert 22 9 (.slice (some ⟨x,ox+p,none⟩) nn (cap - p))).run Tryz.prog X= .ok (.string (dI ((l.drop p).take nn))) X):=Lib.hid fun X hX hb=>Ea HS.out hne hX hb p nn hnl hkd
 rw [HNE.out] at HF
 have HF4:=Lib.hid (HF.out w4 K4.out.ch ⟨_,_,_,HR4.out.blk⟩)
 have aaq:=Lib.hid (HF.out w4.drew (qX K4.out.ch) ⟨_,_,_,HR4.out.blk⟩)
 clear hpe
 go_region_held3 (fun X=>X.cell? ⟨rb,0,none⟩=some (.slice (some ⟨x,ox,none⟩) l.length cap)∧(convert 22 9 (.slice (some ⟨x,ox+p,none⟩) nn (cap - p))).run Tryz.prog X= .ok (.string nm) X)
  (first | with_reducible exact HF4.out | with_reducible exact aaq.out | with_reducible exact HF5.out | with_reducible exact HF6.out | with_reducible exact W9.out _ _ _ _ _ _)
  (first | (go_at_call 41;(with_reducible refine HEX.out.mono ?_);rintro e w5 ⟨⟨y,oa,na,rfl,hq⟩,hch⟩;have HQ:=Lib.hid hq;have K5:=Lib.hid (K4.out.drew.next hrw hch);clear hq hch;have FX:Hid (∃k c q,w5.heap[rb]? =some (.cells (Nj (.slice (some ⟨x,ox,none⟩) l.length cap) k c q) 81 (0,0))):=Lib.hid (by obtain ⟨k',c',q',hr'⟩:=HQ.out.st;exact ⟨_,_,_,hr'.blk⟩);have HF5:=Lib.hid (HF.out w5 K5.out.ch FX.out);have H5S:=Lib.hid (lt_of_heap K5.out.iJ);have K6:=Lib.hid (K5.out.add hrw (.cells #[.string y.op,.int .i64 y.val,.string y.nm,.int .i64 y.pos,.int .i64 y.aG,.slice oa na na] 30));have HG6:=Lib.hid (K6.out.at (List.mem_cons_of_mem _ (List.mem_cons_self ..)));have HB6:=Lib.hid (Vh FX.out (.cells #[.string y.op,.int .i64 y.val,.string y.nm,.int .i64 y.pos,.int .i64 y.aG,.slice oa na na] 30));have HF6:=Lib.hid (HF.out _ K6.out.ch HB6.out);have W9:=Lib.hid (fun v0 v1 v2 v3 v4 v5=>HF.out _ (qV K6.out.ch (Nat.le_refl _) (Nat.le_of_lt hrw) v0 v1 v2 v3 v4 v5) (XV HB6.out (by omega) v0 v1 v2 v3 v4 v5));unfold jJ at W9;obtain ⟨⟨z0,z1,z2,z3,z4,z5⟩,y0,y1,y2,y3,y4,y5⟩:=aA HG6.out))
 have h5s:=H5S.out
 have hdr:w4.drew.heap.size=w4.heap.size:=rfl
 obtain ⟨V,hV⟩: ∃V:World,V=jJ (w5.alloc (.cells #[.string y.op,.int .i64 y.val,.string y.nm,.int .i64 y.pos,.int .i64 y.aG,.slice oa na na] 30)) w.heap.size (.string s) (.int .i64 0) (.string nm) (.int .i64 p) (.int .i64 q) (.slice (some ⟨w5.heap.size,0,none⟩) 1 1):=⟨_,rfl⟩
 have hV':=hV
 unfold jJ at hV'
 rw [←hV']
 clear hV'
 have Q5:Hid (V.heap[w.heap.size]? =some (.cells #[.string s,.int .i64 0,.string nm,.int .i64 p,.int .i64 q,.slice (some ⟨w5.heap.size,0,none⟩) 1 1] 30)):=Lib.hid (by rw [hV];exact pF HG6.out _ _ _ _ _ _)
 have Q7:Hid (Ch rb w V):=Lib.hid (by rw [hV];exact qV K6.out.ch (Nat.le_refl _) (Nat.le_of_lt hrw) _ _ _ _ _ _)
 have WY:Hid (V.heap[w5.heap.size]? =some (.cells #[.string y.op,.int .i64 y.val,.string y.nm,.int .i64 y.pos,.int .i64 y.aG,.slice oa na na] 30)):=Lib.hid (by rw [hV];exact (bg _ _ _ _ _ _ _ _ _ (by omega)).trans (heap_alloc_last w5 _))
 have h4s:=lt_of_heap K4.out.iJ
 have HVQ:Hid (Dp l (.slice (some ⟨x,ox,none⟩) l.length cap) rb (n+1) w.heap.size res y (.slice oa na na) V):=Lib.hid (HQ.out.move (by rw [hV];exact (bg _ _ _ _ _ _ _ _ _ (by omega)).trans (aB _ _ _ (by omega))) (mW HS.out yx.out Q7.out) (fun k' hk' hs'=>by rw [hV];exact (bg _ _ _ _ _ _ _ _ _ (by omega)).trans (aB _ _ _ hs')) (by show w.heap.size≤w4.heap.size;omega) (Nat.le_succ _))
 clear hV z0 z1 z2 z3 z4 z5 y0 y1 y2 y3 y4 y5 W9
 go_wp2_with fail
 exact bodyPost_ret (aI rfl _ _ w.heap.size _ rfl Q5.out rfl) rfl ⟨⟨.eF s nm p q y,_,_,rfl,HVQ.out.eF WY.out (Nat.le_of_lt h5s) s nm p q⟩,Q7.out⟩
theorem Kp.qB {rb:Nat} {w W:World} {g h:Nat} {o o':Obj} {L:List (Nat × Obj)} (k:Kp rb w W ((g,o)::(h,o')::L)):W.heap[h]? =some o':=k.at (List.mem_cons_of_mem _ (List.mem_cons_self ..))
theorem Kp.IQ {rb:Nat} {w W:World} {g h i:Nat} {o o' o2:Obj} {L:List (Nat × Obj)} (k:Kp rb w W ((g,o)::(h,o')::(i,o2)::L)):W.heap[i]? =some o2:=k.at (List.mem_cons_of_mem _ (List.mem_cons_of_mem _ (List.mem_cons_self ..)))
theorem Kp.blk4 {rb:Nat} {w W:World} {g h i j:Nat} {o o' o2 o3:Obj} {L:List (Nat × Obj)} (k:Kp rb w W ((g,o)::(h,o')::(i,o2)::(j,o3)::L)):W.heap[j]? =some o3:=k.at (List.mem_cons_of_mem _ (List.mem_cons_of_mem _ (List.mem_cons_of_mem _ (List.mem_cons_self ..))))
theorem IY:iE∈aF:=kQ (by decide)
theorem UN:o8∈aF:=kQ (by decide)
theorem XJ:jy∈aF:=kQ (by decide)
theorem OM:jw∈aF:=kQ (by decide)
theorem oC (l:List Int) (k:Nat) (h: ¬fB l k=ak):(tok l k).stop=ay l k+(fB l k).size∧(tok l k).start=ay l k:=by
 rcases lg l k with ⟨_,e,s⟩ | ⟨_,_,e,s⟩ | ⟨_,_,e,s⟩ | ⟨_,_,s,e⟩ | ⟨_,_,s,_,e⟩
 ·exact absurd s h
 ·exact absurd s h
 ·exact absurd s h
 ·rw [e];exact ⟨rfl,rfl⟩
 ·exact absurd s h
theorem gU.vI {l:List Int} {bv:Value} {rb k c q:Nat} {w w':World} (h:gU l bv rb k c q w') (hs:Sl w bv l) (hc:Ch rb w w') (hr:rb<w.heap.size) {g:Nat} (hg:w.heap.size≤g) (x:Array Value):gU l bv rb k c q (w'.setRow g x):=h.eY (fun _=>hs) hc hr hg x
theorem Tr.In.vI {w:World} {lo Yx:Nat} {t:Tr} {kv:Value} (h:t.In w lo kv) {g:Nat} (hg:g<lo) (hlo:Yx≤lo) (x:Array Value):t.In (w.setRow g x) Yx kv:=(h.setRow hg x).mono hlo _ _
theorem MV {l:List Int} {bv:Value} {rb n k:Nat} {w:World} (ih:Bh l bv rb n) {c q:Nat} (hb1:rd l n (.bin 1) (tok l k)=some (.bad c q)) (h:gU l bv rb k 0 0 w) (hk:k≤l.length):
  Calls Tryz.prog 77 #[.pointer (some ⟨rb,0,none⟩)] w fun e w'=>Ak l bv rb (n+1) w.heap.size (.bad c q) e w'∧Ch rb w w':=by
 have hrw:=h.lt
 have hll:=h.len
 have HS:=Lib.hid h.sl
 have yx:=Lib.hid h.ap
 obtain ⟨W,hW⟩: ∃W,W=w.alloc dw:=⟨_,rfl⟩
 have HB0:Hid (Below w.heap.size w W):=Lib.hid (by rw [hW];exact (Below.refl _ _).alloc (Nat.le_refl _) _)
 have ql:Hid (Kp rb w W [(w.heap.size,dw)]):=Lib.hid (by rw [hW];exact Kp.start rb w hrw dw)
 have hW0:w.heap.size<W.heap.size:=by rw [hW];simp
 have Jt:=Lib.hid (ih.bin 1 k _ W hb1 (Nat.le_refl _) (by omega) (h.next HB0.out) hk)
 have dR:=Lib.hid hW
 clear hW h hb1
 unfold dw at dR
 go_enter Tryz.func77,Tryz.ntmps77
 go_upto_region 1 with fail
 rw [←dR.out]
 go_wp2_with fail
 refine Jt.out.mono ?_
 rintro x w1 ⟨⟨ya,oa,na,rfl,hq1⟩,hc1⟩
 have K1:=Lib.hid (ql.out.next hrw hc1)
 have rH:=Lib.hid hq1
 have Xc:=Lib.hid (lt_of_heap K1.out.iJ)
 have tq:=Lib.hid (K1.out.add hrw (rG ya (.slice oa na na)))
 clear hq1 hc1 Jt
 go_wp2_with fail
 have ZO:Hid (∃kk,gU l bv rb kk c q (w1.alloc (rG ya (.slice oa na na)))∧kk≤l.length+n∧0<c):=Lib.hid (by
  obtain ⟨hc,kk,hr,hkl⟩:=rH.out
  exact ⟨kk,hr.next ((Below.refl _ _).alloc (Nat.le_refl _) _),hkl,hc⟩)
 obtain ⟨kk,hr,hkl,hc0⟩:=ZO.out
 have jK:=Lib.hid (fK hr)
 have HCC:Hid (∃c1,c=c1+1):=Lib.hid ⟨c - 1,by omega⟩
 clear hr ZO rH
 refine jK.out.mono ?_
 rintro x w2 ⟨rfl,hr2,hc2⟩
 have HR2:=Lib.hid hr2
 have K2:=Lib.hid (tq.out.next hrw hc2)
 have Sr:=Xc.out
 have hsk:ay l kk≤l.length+n:=by
  rcases Nat.lt_or_ge kk l.length with h' | h'
  ·have:=bJ l kk (Nat.le_of_lt h');omega
  ·rw [xB (Or.inl h')];exact hkl
 clear hr2 hc2 jK tq K1
 obtain ⟨e0,e1,e2,_,_⟩:=HR2.out.cells
 obtain ⟨c1,rfl⟩:=HCC.out
 have hcc:(((c1+1:Nat):Int)==0)=false:=by simp;omega
 have hcn:(((c1+1:Nat):Int) !=0)=true:=by simp;omega
 generalize fB l kk=sg at*
 unfold rG at K2
 have Am:Hid (∀g x,w.heap.size≤g→gU l bv rb (ay l kk) (c1+1) q (w2.setRow g x)):=Lib.hid fun g x hg=>HR2.out.vI HS.out K2.out.ch hrw hg x
 have hdq:(sg.toList==[63])=true∨(sg.toList==[63])=false:=by cases (sg.toList==[63])<;>simp
 generalize w1.heap.size=A at*
 rcases hdq with hq | hq
 ·obtain ⟨⟨k0,k1,k2,k3,k4,k5⟩,_⟩:=aA K2.out.iJ
  have jI:=Lib.hid K2.out.qB
  unfold dw at jI
  go_wp2_with (first | (refine aC rfl _ _ rfl rfl w.heap.size ya.op ya.val ya.nm ya.pos ya.aG (.slice oa na na) rfl rfl rfl _ jI.out rfl ?_) | fail)
  exact bodyPost_ret (aI rfl _ _ w.heap.size _ rfl (setRow_self jI.out _) rfl) rfl ⟨⟨ya,oa,na,rfl,⟨by omega,_,Am.out _ _ (Nat.le_refl _),by omega⟩⟩,K2.out.ch.eY (Nat.le_refl _) hrw _⟩
 ·obtain ⟨⟨k0,k1,k2,k3,k4,k5⟩,_⟩:=aA K2.out.iJ
  have jI:=Lib.hid K2.out.qB
  unfold dw at jI
  go_wp2_with (first | (refine aC rfl _ _ rfl rfl w.heap.size ya.op ya.val ya.nm ya.pos ya.aG (.slice oa na na) rfl rfl rfl _ jI.out rfl ?_) | fail)
  exact bodyPost_ret (aI rfl _ _ w.heap.size _ rfl (setRow_self jI.out _) rfl) rfl ⟨⟨ya,oa,na,rfl,⟨by omega,_,Am.out _ _ (Nat.le_refl _),by omega⟩⟩,K2.out.ch.eY (Nat.le_refl _) hrw _⟩
theorem F8 {l:List Int} {bv:Value} {rb n k:Nat} {w:World} (ih:Bh l bv rb n) {ya:Tr} {t1:Tk} (hb1:rd l n (.bin 1) (tok l k)=some (.ok ya t1)) (hnq: ¬t1.text=iE) (h:gU l bv rb k 0 0 w) (hk:k≤l.length):
  Calls Tryz.prog 77 #[.pointer (some ⟨rb,0,none⟩)] w fun e w'=>Ak l bv rb (n+1) w.heap.size (.ok ya t1) e w'∧Ch rb w w':=by
 have hrw:=h.lt
 have hll:=h.len
 have HS:=Lib.hid h.sl
 have yx:=Lib.hid h.ap
 obtain ⟨W,hW⟩: ∃W,W=w.alloc dw:=⟨_,rfl⟩
 have HB0:Hid (Below w.heap.size w W):=Lib.hid (by rw [hW];exact (Below.refl _ _).alloc (Nat.le_refl _) _)
 have ql:Hid (Kp rb w W [(w.heap.size,dw)]):=Lib.hid (by rw [hW];exact Kp.start rb w hrw dw)
 have hW0:w.heap.size<W.heap.size:=by rw [hW];simp
 have Jt:=Lib.hid (ih.bin 1 k _ W hb1 (Nat.le_refl _) (by omega) (h.next HB0.out) hk)
 have dR:=Lib.hid hW
 clear hW h hb1
 unfold dw at dR
 go_enter Tryz.func77,Tryz.ntmps77
 go_upto_region 1 with fail
 rw [←dR.out]
 go_wp2_with fail
 refine Jt.out.mono ?_
 rintro x w1 ⟨⟨yb,oa,na,rfl,hq1⟩,hc1⟩
 have K1:=Lib.hid (ql.out.next hrw hc1)
 have rH:=Lib.hid hq1
 have Xc:=Lib.hid (lt_of_heap K1.out.iJ)
 have tq:=Lib.hid (K1.out.add hrw (rG yb (.slice oa na na)))
 clear hq1 hc1 Jt
 go_wp2_with fail
 obtain ⟨hya,hia,kp,hr1,hk1,rfl⟩:=rH.out
 subst hya
 have sN:Hid (yb.In (w1.alloc (rG yb (.slice oa na na))) (w.heap.size+1) (.slice oa na na)):=Lib.hid ((hia.kept (fun k' _ hs=>aB _ _ k' hs) _ _).mono hW0 _ _)
 have jK:=Lib.hid (fK (hr1.next ((Below.refl _ _).alloc (Nat.le_refl _) (rG yb (.slice oa na na)))))
 have hsk:=bJ l kp hk1
 have hst:=gQ l kp hk1
 have Bj:=Lib.hid (zn hr1.sl.1 kp IY)
 have NG:Hid (¬fB l kp=ak→(tok l kp).stop=ay l kp+(fB l kp).size∧(tok l kp).start=ay l kp):=Lib.hid (oC l kp)
 clear hia hr1 rH
 refine jK.out.mono ?_
 rintro x w2 ⟨rfl,hr2,hc2⟩
 have HR2:=Lib.hid hr2
 have K2:=Lib.hid (tq.out.next hrw hc2)
 have Sr:=Xc.out
 have pR:=Lib.hid (sN.out.ch (by omega) hc2)
 clear hr2 hc2 jK tq K1 sN
 obtain ⟨e0,e1,e2,_,_⟩:=HR2.out.cells
 unfold rG at K2
 have hne: ¬fB l kp=iE:=fun e=>hnq (Bj.out.2 e)
 have hq:((fB l kp).toList==[63])=false:=aX hne
 generalize fB l kp=sg at*
 have Am:Hid (∀g x,w.heap.size≤g→gU l bv rb (ay l kp) 0 0 (w2.setRow g x)):=Lib.hid fun g x hg=>HR2.out.vI HS.out K2.out.ch hrw hg x
 generalize w1.heap.size=A at*
 obtain ⟨⟨k0,k1,k2,k3,k4,k5⟩,_⟩:=aA K2.out.iJ
 have jI:=Lib.hid K2.out.qB
 unfold dw at jI
 go_wp2_with (first | (refine aC rfl _ _ rfl rfl w.heap.size yb.op yb.val yb.nm yb.pos yb.aG (.slice oa na na) rfl rfl rfl _ jI.out rfl ?_) | fail)
 exact bodyPost_ret (aI rfl _ _ w.heap.size _ rfl (setRow_self jI.out _) rfl) rfl ⟨⟨yb,oa,na,rfl,⟨rfl,pR.out.vI (Nat.lt_succ_self _) (Nat.le_succ _) _,_,Am.out _ _ (Nat.le_refl _),hsk,kS l kp⟩⟩,K2.out.ch.eY (Nat.le_refl _) hrw _⟩
theorem QH {l:List Int} {bv:Value} {rb n k:Nat} {w:World} (ih:Bh l bv rb n) {ya:Tr} {t1:Tk} {c q:Nat} (hb1:rd l n (.bin 1) (tok l k)=some (.ok ya t1)) (NJ:t1.text=iE) (hx2:rd l n .expr (tok l t1.stop)=some (.bad c q)) (h:gU l bv rb k 0 0 w) (hk:k≤l.length):
  Calls Tryz.prog 77 #[.pointer (some ⟨rb,0,none⟩)] w fun e w'=>Ak l bv rb (n+1) w.heap.size (.bad c q) e w'∧Ch rb w w':=by
 have hrw:=h.lt
 have hll:=h.len
 have HS:=Lib.hid h.sl
 have yx:=Lib.hid h.ap
 obtain ⟨W,hW⟩: ∃W,W=w.alloc dw:=⟨_,rfl⟩
 have HB0:Hid (Below w.heap.size w W):=Lib.hid (by rw [hW];exact (Below.refl _ _).alloc (Nat.le_refl _) _)
 have ql:Hid (Kp rb w W [(w.heap.size,dw)]):=Lib.hid (by rw [hW];exact Kp.start rb w hrw dw)
 have hW0:w.heap.size<W.heap.size:=by rw [hW];simp
 have Jt:=Lib.hid (ih.bin 1 k _ W hb1 (Nat.le_refl _) (by omega) (h.next HB0.out) hk)
 have dR:=Lib.hid hW
 clear hW h hb1
 unfold dw at dR
 go_enter Tryz.func77,Tryz.ntmps77
 go_upto_region 1 with fail
 rw [←dR.out]
 go_wp2_with fail
 refine Jt.out.mono ?_
 rintro x w1 ⟨⟨yb,oa,na,rfl,hq1⟩,hc1⟩
 have K1:=Lib.hid (ql.out.next hrw hc1)
 have rH:=Lib.hid hq1
 have Xc:=Lib.hid (lt_of_heap K1.out.iJ)
 have tq:=Lib.hid (K1.out.add hrw (rG yb (.slice oa na na)))
 clear hq1 hc1 Jt
 go_wp2_with fail
 obtain ⟨hya,hia,kp,hr1,hk1,rfl⟩:=rH.out
 subst hya
 have sN:Hid (yb.In (w1.alloc (rG yb (.slice oa na na))) (w.heap.size+1) (.slice oa na na)):=Lib.hid ((hia.kept (fun k' _ hs=>aB _ _ k' hs) _ _).mono hW0 _ _)
 have jK:=Lib.hid (fK (hr1.next ((Below.refl _ _).alloc (Nat.le_refl _) (rG yb (.slice oa na na)))))
 have hsk:=bJ l kp hk1
 have hst:=gQ l kp hk1
 have Bj:=Lib.hid (zn hr1.sl.1 kp IY)
 have NG:Hid (¬fB l kp=ak→(tok l kp).stop=ay l kp+(fB l kp).size∧(tok l kp).start=ay l kp):=Lib.hid (oC l kp)
 clear hia hr1 rH
 refine jK.out.mono ?_
 rintro x w2 ⟨rfl,hr2,hc2⟩
 have HR2:=Lib.hid hr2
 have K2:=Lib.hid (tq.out.next hrw hc2)
 have Sr:=Xc.out
 have pR:=Lib.hid (sN.out.ch (by omega) hc2)
 clear hr2 hc2 jK tq K1 sN
 obtain ⟨e0,e1,e2,_,_⟩:=HR2.out.cells
 unfold rG at K2
 have IJ:fB l kp=iE:=Bj.out.1 NJ
 obtain ⟨hstop,hstart⟩:=NG.out (by rw [IJ];decide)
 have hz1:iE.size=1:=rfl
 rw [IJ,hz1] at hst hstop
 have hqq:((fB l kp).toList==[63])=true:=by rw [IJ,kE];exact decide_eq_true rfl
 rw [hstop] at hx2
 obtain ⟨p1,hp1⟩: ∃p1,ay l kp=p1:=⟨_,rfl⟩
 rw [hp1] at HR2 hst hsk hx2 hstart
 have aam:=Lib.hid hstart
 clear e0 e1 e2
 obtain ⟨e0,e1,e2,_,_⟩:=HR2.out.cells
 generalize fB l kp=sg at*
 clear hp1 hstop hstart NG Bj IJ
 have f1:=HR2.out.fr 1
 have HR3:Hid (gU l bv rb (p1+1) 0 0 (w2.setCell ⟨rb,1,none⟩ (.int .i64 ((p1:Int)+1)))):=Lib.hid (HR2.out.rD (p1+1) (by omega))
 have K3:=Lib.hid (K2.out.next hrw (Ch.set (rb:=rb) w2 1 (.int .i64 ((p1:Int)+1))))
 have qC:=Lib.hid (pR.out.ch (by omega) (Ch.set (rb:=rb) w2 1 (.int .i64 ((p1:Int)+1))))
 have HEX:=Lib.hid (ih.expr (p1+1) _ _ hx2 HR3.out hst)
 have aad:w.heap.size<w2.heap.size:=lt_of_heap K2.out.qB
 have hzs:(w2.setCell ⟨rb,1,none⟩ (.int .i64 ((p1:Int)+1))).heap.size=w2.heap.size:=by simp
 clear HR2 K2 pR
 go_wp2_with fail
 refine HEX.out.mono ?_
 rintro x w4 ⟨⟨yy,oy,ny,rfl,hq4⟩,hc4⟩
 have K4:=Lib.hid (K3.out.next hrw hc4)
 have Az:=Lib.hid (qC.out.ch (by omega) hc4)
 have WI:=Lib.hid hq4
 have Z9:=Lib.hid (lt_of_heap K4.out.iJ)
 have K5:=Lib.hid (K4.out.add hrw (.cells #[.string yy.op,.int .i64 yy.val,.string yy.nm,.int .i64 yy.pos,.int .i64 yy.aG,.slice oy ny ny] 30))
 have IV:=Lib.hid (Az.out.kept (fun k' _ hs=>aB _ (.cells #[.string yy.op,.int .i64 yy.val,.string yy.nm,.int .i64 yy.pos,.int .i64 yy.aG,.slice oy ny ny] 30) k' hs) _ _)
 clear hq4 hc4 HEX HR3 K3 qC e0 e1 e2 f1 hzs
 obtain ⟨hc0,kk,hr4,hkl⟩:=WI.out
 obtain ⟨c1,rfl⟩: ∃c1,c=c1+1:=⟨c - 1,by omega⟩
 have Jw:=hr4.next ((Below.refl _ _).alloc (Nat.le_refl _) (.cells #[.string yy.op,.int .i64 yy.val,.string yy.nm,.int .i64 yy.pos,.int .i64 yy.aG,.slice oy ny ny] 30))
 have Jr:=Lib.hid Jw
 obtain ⟨e0,e1,e2,_,_⟩:=Jw.cells
 have hcn:(((c1+1:Nat):Int) !=0)=true:=by simp;omega
 have Am:Hid (∀g x,w.heap.size≤g→gU l bv rb kk (c1+1) q ((w4.alloc (.cells #[.string yy.op,.int .i64 yy.val,.string yy.nm,.int .i64 yy.pos,.int .i64 yy.aG,.slice oy ny ny] 30)).setRow g x)):=Lib.hid fun g x hg=>Jr.out.vI HS.out K5.out.ch hrw hg x
 clear hr4 Jw WI
 generalize w1.heap.size=A at*
 have h4s:=Z9.out
 obtain ⟨⟨k0,k1,k2,k3,k4,k5⟩,_⟩:=aA K5.out.qB
 have jI:=Lib.hid K5.out.IQ
 unfold dw at jI
 go_wp2_with (first | (refine aC rfl _ _ rfl rfl w.heap.size yb.op yb.val yb.nm yb.pos yb.aG (.slice oa na na) rfl rfl rfl _ jI.out rfl ?_) | fail)
 exact bodyPost_ret (aI rfl _ _ w.heap.size _ rfl (setRow_self jI.out _) rfl) rfl ⟨⟨yb,oa,na,rfl,⟨by omega,_,Am.out _ _ (Nat.le_refl _),by omega⟩⟩,K5.out.ch.eY (Nat.le_refl _) hrw _⟩
theorem QI {l:List Int} {bv:Value} {rb n k:Nat} {w:World} (ih:Bh l bv rb n) {ya y2:Tr} {t1 t2:Tk} (hb1:rd l n (.bin 1) (tok l k)=some (.ok ya t1)) (NJ:t1.text=iE) (hx2:rd l n .expr (tok l t1.stop)=some (.ok y2 t2)) (hnc: ¬t2.text=o8) (h:gU l bv rb k 0 0 w) (hk:k≤l.length):
  Calls Tryz.prog 77 #[.pointer (some ⟨rb,0,none⟩)] w fun e w'=>Ak l bv rb (n+1) w.heap.size (refuse t2) e w'∧Ch rb w w':=by
 have hrw:=h.lt
 have hll:=h.len
 have HS:=Lib.hid h.sl
 have yx:=Lib.hid h.ap
 obtain ⟨W,hW⟩: ∃W,W=w.alloc dw:=⟨_,rfl⟩
 have HB0:Hid (Below w.heap.size w W):=Lib.hid (by rw [hW];exact (Below.refl _ _).alloc (Nat.le_refl _) _)
 have ql:Hid (Kp rb w W [(w.heap.size,dw)]):=Lib.hid (by rw [hW];exact Kp.start rb w hrw dw)
 have hW0:w.heap.size<W.heap.size:=by rw [hW];simp
 have Jt:=Lib.hid (ih.bin 1 k _ W hb1 (Nat.le_refl _) (by omega) (h.next HB0.out) hk)
 have dR:=Lib.hid hW
 clear hW h hb1
 unfold dw at dR
 go_enter Tryz.func77,Tryz.ntmps77
 go_upto_region 1 with fail
 rw [←dR.out]
 go_wp2_with fail
 refine Jt.out.mono ?_
 rintro x w1 ⟨⟨yb,oa,na,rfl,hq1⟩,hc1⟩
 have K1:=Lib.hid (ql.out.next hrw hc1)
 have rH:=Lib.hid hq1
 have Xc:=Lib.hid (lt_of_heap K1.out.iJ)
 have tq:=Lib.hid (K1.out.add hrw (rG yb (.slice oa na na)))
 clear hq1 hc1 Jt
 go_wp2_with fail
 obtain ⟨hya,hia,kp,hr1,hk1,rfl⟩:=rH.out
 subst hya
 have sN:Hid (yb.In (w1.alloc (rG yb (.slice oa na na))) (w.heap.size+1) (.slice oa na na)):=Lib.hid ((hia.kept (fun k' _ hs=>aB _ _ k' hs) _ _).mono hW0 _ _)
 have jK:=Lib.hid (fK (hr1.next ((Below.refl _ _).alloc (Nat.le_refl _) (rG yb (.slice oa na na)))))
 have hsk:=bJ l kp hk1
 have hst:=gQ l kp hk1
 have Bj:=Lib.hid (zn hr1.sl.1 kp IY)
 have NG:Hid (¬fB l kp=ak→(tok l kp).stop=ay l kp+(fB l kp).size∧(tok l kp).start=ay l kp):=Lib.hid (oC l kp)
 clear hia hr1 rH
 refine jK.out.mono ?_
 rintro x w2 ⟨rfl,hr2,hc2⟩
 have HR2:=Lib.hid hr2
 have K2:=Lib.hid (tq.out.next hrw hc2)
 have Sr:=Xc.out
 have pR:=Lib.hid (sN.out.ch (by omega) hc2)
 clear hr2 hc2 jK tq K1 sN
 obtain ⟨e0,e1,e2,_,_⟩:=HR2.out.cells
 unfold rG at K2
 have IJ:fB l kp=iE:=Bj.out.1 NJ
 obtain ⟨hstop,hstart⟩:=NG.out (by rw [IJ];decide)
 have hz1:iE.size=1:=rfl
 rw [IJ,hz1] at hst hstop
 have hqq:((fB l kp).toList==[63])=true:=by rw [IJ,kE];exact decide_eq_true rfl
 rw [hstop] at hx2
 obtain ⟨p1,hp1⟩: ∃p1,ay l kp=p1:=⟨_,rfl⟩
 rw [hp1] at HR2 hst hsk hx2 hstart
 have aam:=Lib.hid hstart
 clear e0 e1 e2
 obtain ⟨e0,e1,e2,_,_⟩:=HR2.out.cells
 generalize fB l kp=sg at*
 clear hp1 hstop hstart NG Bj IJ
 have f1:=HR2.out.fr 1
 have HR3:Hid (gU l bv rb (p1+1) 0 0 (w2.setCell ⟨rb,1,none⟩ (.int .i64 ((p1:Int)+1)))):=Lib.hid (HR2.out.rD (p1+1) (by omega))
 have K3:=Lib.hid (K2.out.next hrw (Ch.set (rb:=rb) w2 1 (.int .i64 ((p1:Int)+1))))
 have qC:=Lib.hid (pR.out.ch (by omega) (Ch.set (rb:=rb) w2 1 (.int .i64 ((p1:Int)+1))))
 have HEX:=Lib.hid (ih.expr (p1+1) _ _ hx2 HR3.out hst)
 have aad:w.heap.size<w2.heap.size:=lt_of_heap K2.out.qB
 have hzs:(w2.setCell ⟨rb,1,none⟩ (.int .i64 ((p1:Int)+1))).heap.size=w2.heap.size:=by simp
 clear HR2 K2 pR
 go_wp2_with fail
 refine HEX.out.mono ?_
 rintro x w4 ⟨⟨yy,oy,ny,rfl,hq4⟩,hc4⟩
 have K4:=Lib.hid (K3.out.next hrw hc4)
 have Az:=Lib.hid (qC.out.ch (by omega) hc4)
 have WI:=Lib.hid hq4
 have Z9:=Lib.hid (lt_of_heap K4.out.iJ)
 have K5:=Lib.hid (K4.out.add hrw (.cells #[.string yy.op,.int .i64 yy.val,.string yy.nm,.int .i64 yy.pos,.int .i64 yy.aG,.slice oy ny ny] 30))
 have IV:=Lib.hid (Az.out.kept (fun k' _ hs=>aB _ (.cells #[.string yy.op,.int .i64 yy.val,.string yy.nm,.int .i64 yy.pos,.int .i64 yy.aG,.slice oy ny ny] 30) k' hs) _ _)
 clear hq4 hc4 HEX HR3 K3 qC e0 e1 e2 f1 hzs
 obtain ⟨hyy,hiy,kq,hr4,hkq,rfl⟩:=WI.out
 subst hyy
 have Jw:=hr4.next ((Below.refl _ _).alloc (Nat.le_refl _) (.cells #[.string yy.op,.int .i64 yy.val,.string yy.nm,.int .i64 yy.pos,.int .i64 yy.aG,.slice oy ny ny] 30))
 have TR:=Lib.hid (fK Jw)
 have Xe:=bJ l kq hkq
 have hst5:=gQ l kq hkq
 have TG:=Lib.hid (zn Jw.sl.1 kq UN)
 have Xk:Hid (¬fB l kq=ak→(tok l kq).stop=ay l kq+(fB l kq).size∧(tok l kq).start=ay l kq):=Lib.hid (oC l kq)
 have JQ:Hid (yy.In (w4.alloc (.cells #[.string yy.op,.int .i64 yy.val,.string yy.nm,.int .i64 yy.pos,.int .i64 yy.aG,.slice oy ny ny] 30)) (w.heap.size+1) (.slice oy ny ny)):=Lib.hid ((hiy.kept (fun k' _ hs=>aB _ _ k' hs) _ _).mono (by simp;omega) _ _)
 obtain ⟨e0,e1,e2,_,_⟩:=Jw.cells
 have h4s:=Z9.out
 clear hr4 Jw hiy WI
 go_wp2_with fail
 refine TR.out.mono ?_
 rintro x w6 ⟨rfl,Jz,hc6⟩
 have Aw:=Lib.hid Jz
 have K6:=Lib.hid (K5.out.next hrw hc6)
 have aap:=Lib.hid (IV.out.ch (by omega) hc6)
 have aao:=Lib.hid (JQ.out.ch (by omega) hc6)
 have h6s:w.heap.size<w6.heap.size:=lt_of_heap K6.out.IQ
 have H6L:=Lib.hid (lt_of_heap K6.out.iJ)
 clear Jz hc6 TR IV JQ Az K4 K5 e0 e1 e2
 obtain ⟨e0,e1,e2,_,_⟩:=Aw.out.cells
 have hne: ¬fB l kq=o8:=fun e=>hnc (TG.out.2 e)
 have hq5:((fB l kq).toList==[58])=false:=aX hne
 have Dq:=Lib.hid (DZ Aw.out Xe)
 rw [kS] at Dq
 have hz0:zT.v (.slice none 0 0)= .agg #[.string ⟨#[]⟩,.int .i64 0,.string ⟨#[]⟩,.int .i64 0,.int .i64 0,.slice none 0 0]:=rfl
 rw [hz0] at Dq
 generalize fB l kq=sg2 at*
 clear hne TG Xk
 go_wp2_with fail
 refine Dq.out.mono ?_
 rintro x w7 ⟨rfl,N9,hcd,Ob⟩
 have JE:=Lib.hid N9
 have K7:=Lib.hid (K6.out.next hrw Ob)
 have jI:=Lib.hid K7.out.IQ
 unfold dw at jI
 have Am:Hid (∀g x,w.heap.size≤g→gU l bv rb (ay l (ay l kq)) (tok l kq).code (tok l kq).start (w7.setRow g x)):=Lib.hid fun g x hg=>JE.out.vI HS.out K7.out.ch hrw hg x
 have aae:=bJ l (ay l kq) Xe
 clear N9 Ob Dq
 go_wp2_with (first | (refine aC rfl _ _ rfl rfl w.heap.size ⟨#[]⟩ 0 ⟨#[]⟩ 0 0 (.slice none 0 0) rfl rfl rfl _ jI.out rfl ?_) | fail)
 exact bodyPost_ret (aI rfl _ _ w.heap.size _ rfl (setRow_self jI.out _) rfl) rfl ⟨⟨zT,none,0,rfl,hcd,_,Am.out _ _ (Nat.le_refl _),by omega⟩,K7.out.ch.eY (Nat.le_refl _) hrw _⟩
theorem Dp.cond {l:List Int} {bv:Value} {rb n lo b:Nat} {r:Rs} {ta tb y:Tr} {ka kb kv:Value} {w:World} (h:Dp l bv rb n lo r y kv w) (ha:ta.In w lo ka) (hbb:tb.In w lo kb) (hb:w.heap[b]? =some (.cells #[.string ta.op,.int .i64 ta.val,.string ta.nm,.int .i64 ta.pos,.int .i64 ta.aG,ka,.string tb.op,.int .i64 tb.val,.string tb.nm,.int .i64 tb.pos,.int .i64 tb.aG,kb,.string y.op,.int .i64 y.val,.string y.nm,.int .i64 y.pos,.int .i64 y.aG,kv] 30)) (hlo:lo≤b) (op:ByteArray) (p:Nat):Dp l bv rb n lo (r.map (.cond op p ta tb)) (.cond op p ta tb y) (.slice (some ⟨b,0,none⟩) 3 3) w:=by
 cases r with
 | ok t nx=>
  obtain ⟨rfl,hi,hk⟩:=h
  exact ⟨rfl,⟨b,ka,kb,kv,rfl,hlo,hb,ha,hbb,hi⟩,hk⟩
 | bad c q=>exact h
theorem MW {l:List Int} {bv:Value} {rb n k:Nat} {w:World} (ih:Bh l bv rb n) {ya y2:Tr} {t1 t2:Tk} {res:Rs} (hb1:rd l n (.bin 1) (tok l k)=some (.ok ya t1)) (NJ:t1.text=iE) (hx2:rd l n .expr (tok l t1.stop)=some (.ok y2 t2)) (hyc:t2.text=o8) (hx3:rd l n .cond (tok l t2.stop)=some res) (h:gU l bv rb k 0 0 w) (hk:k≤l.length):
  Calls Tryz.prog 77 #[.pointer (some ⟨rb,0,none⟩)] w fun e w'=>Ak l bv rb (n+1) w.heap.size (res.map (.cond t1.text t1.start ya y2)) e w'∧Ch rb w w':=by
 have hq1t':=NJ
 rw [NJ]
 have hrw:=h.lt
 have hll:=h.len
 have HS:=Lib.hid h.sl
 have yx:=Lib.hid h.ap
 obtain ⟨W,hW⟩: ∃W,W=w.alloc dw:=⟨_,rfl⟩
 have HB0:Hid (Below w.heap.size w W):=Lib.hid (by rw [hW];exact (Below.refl _ _).alloc (Nat.le_refl _) _)
 have ql:Hid (Kp rb w W [(w.heap.size,dw)]):=Lib.hid (by rw [hW];exact Kp.start rb w hrw dw)
 have hW0:w.heap.size<W.heap.size:=by rw [hW];simp
 have Jt:=Lib.hid (ih.bin 1 k _ W hb1 (Nat.le_refl _) (by omega) (h.next HB0.out) hk)
 have dR:=Lib.hid hW
 clear hW h hb1
 unfold dw at dR
 go_enter Tryz.func77,Tryz.ntmps77
 go_upto_region 1 with fail
 rw [←dR.out]
 go_wp2_with fail
 refine Jt.out.mono ?_
 rintro x w1 ⟨⟨yb,oa,na,rfl,hq1⟩,hc1⟩
 have K1:=Lib.hid (ql.out.next hrw hc1)
 have rH:=Lib.hid hq1
 have Xc:=Lib.hid (lt_of_heap K1.out.iJ)
 have tq:=Lib.hid (K1.out.add hrw (rG yb (.slice oa na na)))
 clear hq1 hc1 Jt
 go_wp2_with fail
 obtain ⟨hya,hia,kp,hr1,hk1,rfl⟩:=rH.out
 subst hya
 have sN:Hid (yb.In (w1.alloc (rG yb (.slice oa na na))) (w.heap.size+1) (.slice oa na na)):=Lib.hid ((hia.kept (fun k' _ hs=>aB _ _ k' hs) _ _).mono hW0 _ _)
 have jK:=Lib.hid (fK (hr1.next ((Below.refl _ _).alloc (Nat.le_refl _) (rG yb (.slice oa na na)))))
 have hsk:=bJ l kp hk1
 have hst:=gQ l kp hk1
 have Bj:=Lib.hid (zn hr1.sl.1 kp IY)
 have NG:Hid (¬fB l kp=ak→(tok l kp).stop=ay l kp+(fB l kp).size∧(tok l kp).start=ay l kp):=Lib.hid (oC l kp)
 clear hia hr1 rH
 refine jK.out.mono ?_
 rintro x w2 ⟨rfl,hr2,hc2⟩
 have HR2:=Lib.hid hr2
 have K2:=Lib.hid (tq.out.next hrw hc2)
 have Sr:=Xc.out
 have pR:=Lib.hid (sN.out.ch (by omega) hc2)
 clear hr2 hc2 jK tq K1 sN
 obtain ⟨e0,e1,e2,_,_⟩:=HR2.out.cells
 unfold rG at K2
 have IJ:fB l kp=iE:=Bj.out.1 NJ
 obtain ⟨hstop,hstart⟩:=NG.out (by rw [IJ];decide)
 have hz1:iE.size=1:=rfl
 rw [IJ,hz1] at hst hstop
 have hqq:((fB l kp).toList==[63])=true:=by rw [IJ,kE];exact decide_eq_true rfl
 rw [hstop] at hx2
 obtain ⟨p1,hp1⟩: ∃p1,ay l kp=p1:=⟨_,rfl⟩
 rw [hp1] at HR2 hst hsk hx2 hstart
 have aam:=Lib.hid hstart
 clear e0 e1 e2
 obtain ⟨e0,e1,e2,_,_⟩:=HR2.out.cells
 generalize fB l kp=sg at*
 clear hp1 hstop hstart NG Bj IJ
 have f1:=HR2.out.fr 1
 have HR3:Hid (gU l bv rb (p1+1) 0 0 (w2.setCell ⟨rb,1,none⟩ (.int .i64 ((p1:Int)+1)))):=Lib.hid (HR2.out.rD (p1+1) (by omega))
 have K3:=Lib.hid (K2.out.next hrw (Ch.set (rb:=rb) w2 1 (.int .i64 ((p1:Int)+1))))
 have qC:=Lib.hid (pR.out.ch (by omega) (Ch.set (rb:=rb) w2 1 (.int .i64 ((p1:Int)+1))))
 have HEX:=Lib.hid (ih.expr (p1+1) _ _ hx2 HR3.out hst)
 have aad:w.heap.size<w2.heap.size:=lt_of_heap K2.out.qB
 have hzs:(w2.setCell ⟨rb,1,none⟩ (.int .i64 ((p1:Int)+1))).heap.size=w2.heap.size:=by simp
 clear HR2 K2 pR
 go_wp2_with fail
 refine HEX.out.mono ?_
 rintro x w4 ⟨⟨yy,oy,ny,rfl,hq4⟩,hc4⟩
 have K4:=Lib.hid (K3.out.next hrw hc4)
 have Az:=Lib.hid (qC.out.ch (by omega) hc4)
 have WI:=Lib.hid hq4
 have Z9:=Lib.hid (lt_of_heap K4.out.iJ)
 have K5:=Lib.hid (K4.out.add hrw (.cells #[.string yy.op,.int .i64 yy.val,.string yy.nm,.int .i64 yy.pos,.int .i64 yy.aG,.slice oy ny ny] 30))
 have IV:=Lib.hid (Az.out.kept (fun k' _ hs=>aB _ (.cells #[.string yy.op,.int .i64 yy.val,.string yy.nm,.int .i64 yy.pos,.int .i64 yy.aG,.slice oy ny ny] 30) k' hs) _ _)
 clear hq4 hc4 HEX HR3 K3 qC e0 e1 e2 f1 hzs
 obtain ⟨hyy,hiy,kq,hr4,hkq,rfl⟩:=WI.out
 subst hyy
 have Jw:=hr4.next ((Below.refl _ _).alloc (Nat.le_refl _) (.cells #[.string yy.op,.int .i64 yy.val,.string yy.nm,.int .i64 yy.pos,.int .i64 yy.aG,.slice oy ny ny] 30))
 have TR:=Lib.hid (fK Jw)
 have Xe:=bJ l kq hkq
 have hst5:=gQ l kq hkq
 have TG:=Lib.hid (zn Jw.sl.1 kq UN)
 have Xk:Hid (¬fB l kq=ak→(tok l kq).stop=ay l kq+(fB l kq).size∧(tok l kq).start=ay l kq):=Lib.hid (oC l kq)
 have JQ:Hid (yy.In (w4.alloc (.cells #[.string yy.op,.int .i64 yy.val,.string yy.nm,.int .i64 yy.pos,.int .i64 yy.aG,.slice oy ny ny] 30)) (w.heap.size+1) (.slice oy ny ny)):=Lib.hid ((hiy.kept (fun k' _ hs=>aB _ _ k' hs) _ _).mono (by simp;omega) _ _)
 obtain ⟨e0,e1,e2,_,_⟩:=Jw.cells
 have h4s:=Z9.out
 clear hr4 Jw hiy WI
 go_wp2_with fail
 refine TR.out.mono ?_
 rintro x w6 ⟨rfl,Jz,hc6⟩
 have Aw:=Lib.hid Jz
 have K6:=Lib.hid (K5.out.next hrw hc6)
 have aap:=Lib.hid (IV.out.ch (by omega) hc6)
 have aao:=Lib.hid (JQ.out.ch (by omega) hc6)
 have h6s:w.heap.size<w6.heap.size:=lt_of_heap K6.out.IQ
 have H6L:=Lib.hid (lt_of_heap K6.out.iJ)
 clear Jz hc6 TR IV JQ Az K4 K5 e0 e1 e2
 obtain ⟨e0,e1,e2,_,_⟩:=Aw.out.cells
 have IL:fB l kq=o8:=TG.out.1 hyc
 obtain ⟨vV,_⟩:=Xk.out (by rw [IL];decide)
 have hz5:o8.size=1:=rfl
 rw [IL,hz5] at hst5 vV
 have hq5:((fB l kq).toList==[58])=true:=by rw [IL,kE];exact decide_eq_true rfl
 rw [vV] at hx3
 obtain ⟨q1,Td⟩: ∃q1,ay l kq=q1:=⟨_,rfl⟩
 rw [Td] at Aw hst5 Xe hx3
 clear e0 e1 e2
 obtain ⟨e0,e1,e2,_,_⟩:=Aw.out.cells
 generalize fB l kq=sg2 at*
 clear Td vV Xk TG IL hyc
 have f1:=Aw.out.fr 1
 have JE:Hid (gU l bv rb (q1+1) 0 0 (w6.setCell ⟨rb,1,none⟩ (.int .i64 ((q1:Int)+1)))):=Lib.hid (Aw.out.rD (q1+1) (by omega))
 have K7:=Lib.hid (K6.out.next hrw (Ch.set (rb:=rb) w6 1 (.int .i64 ((q1:Int)+1))))
 have HIA7:=Lib.hid (aap.out.ch (by omega) (Ch.set (rb:=rb) w6 1 (.int .i64 ((q1:Int)+1))))
 have HIY7:=Lib.hid (aao.out.ch (by omega) (Ch.set (rb:=rb) w6 1 (.int .i64 ((q1:Int)+1))))
 go_wp2_with fail
 generalize hW7:w6.setCell ⟨rb,1,none⟩ (.int .i64 ((q1:Int)+1))=w7 at*
 clear hW7 e0 e1 e2 f1 K6 Aw aap aao
 have Z8:=Lib.hid (ih.cond (q1+1) res w7.drew hx3 ⟨JE.out.blk,JE.out.sl,JE.out.len,JE.out.hi,JE.out.ap⟩ hst5)
 have HFF:Hid (∀(A B:Nat) (X:World),X.heap[A]? =some (.cells #[.string yb.op,.int .i64 yb.val,.string yb.nm,.int .i64 yb.pos,.int .i64 yb.aG,.slice oa na na] 30)→X.heap[B]? =some (.cells #[.string yy.op,.int .i64 yy.val,.string yy.nm,.int .i64 yy.pos,.int .i64 yy.aG,.slice oy ny ny] 30)→(X.cell? ⟨A,0,none⟩=some (.string yb.op)∧X.cell? ⟨A,1,none⟩=some (.int .i64 yb.val)∧X.cell? ⟨A,2,none⟩=some (.string yb.nm)∧X.cell? ⟨A,3,none⟩=some (.int .i64 yb.pos)∧X.cell? ⟨A,4,none⟩=some (.int .i64 yb.aG)∧X.cell? ⟨A,5,none⟩=some (.slice oa na na))∧(X.cell? ⟨B,0,none⟩=some (.string yy.op)∧X.cell? ⟨B,1,none⟩=some (.int .i64 yy.val)∧X.cell? ⟨B,2,none⟩=some (.string yy.nm)∧X.cell? ⟨B,3,none⟩=some (.int .i64 yy.pos)∧X.cell? ⟨B,4,none⟩=some (.int .i64 yy.aG)∧X.cell? ⟨B,5,none⟩=some (.slice oy ny ny))):=Lib.hid fun A B X ha hb=>⟨(aA ha).1,(aA hb).1⟩
 have HNE:Hid (w1.heap.size≠w.heap.size∧w4.heap.size≠w.heap.size):=Lib.hid ⟨by omega,by omega⟩
 have h7s:w.heap.size<w7.heap.size:=lt_of_heap K7.out.IQ
 have H7S:=Lib.hid h7s
 generalize w1.heap.size=A at*
 generalize w4.heap.size=B at*
 have HF:=Lib.hid (HFF.out A B)
 have W9:=Lib.hid (HF.out w7 K7.out.qB K7.out.iJ)
 have HF7d:=Lib.hid (HF.out w7.drew K7.out.qB K7.out.iJ)
 clear h7s h4s Sr h6s aad
 go_region_held3 (fun X=>(X.cell? ⟨A,0,none⟩=some (.string yb.op)∧X.cell? ⟨A,1,none⟩=some (.int .i64 yb.val)∧X.cell? ⟨A,2,none⟩=some (.string yb.nm)∧X.cell? ⟨A,3,none⟩=some (.int .i64 yb.pos)∧X.cell? ⟨A,4,none⟩=some (.int .i64 yb.aG)∧X.cell? ⟨A,5,none⟩=some (.slice oa na na))∧(X.cell? ⟨B,0,none⟩=some (.string yy.op)∧X.cell? ⟨B,1,none⟩=some (.int .i64 yy.val)∧X.cell? ⟨B,2,none⟩=some (.string yy.nm)∧X.cell? ⟨B,3,none⟩=some (.int .i64 yy.pos)∧X.cell? ⟨B,4,none⟩=some (.int .i64 yy.aG)∧X.cell? ⟨B,5,none⟩=some (.slice oy ny ny)))
  (first | with_reducible exact W9.out | with_reducible exact HF7d.out | with_reducible exact HF8.out | with_reducible exact HF9.out | with_reducible exact aar.out _ _ _ _ _ _)
  (first | (go_at_call 77;(with_reducible refine Z8.out.mono ?_);rintro e w8 ⟨⟨yz,oz,nz,rfl,hq⟩,hch⟩;have HQ:=Lib.hid hq;have K8:=Lib.hid (K7.out.drew.next hrw hch);have HC8:=Lib.hid hch;clear hq hch;have HF8:=Lib.hid (HF.out w8 K8.out.qB K8.out.iJ);have H8S:=Lib.hid (lt_of_heap K8.out.IQ);have K9:=Lib.hid (K8.out.add hrw (Obj.cells #[.string yb.op,.int .i64 yb.val,.string yb.nm,.int .i64 yb.pos,.int .i64 yb.aG,.slice oa na na,.string yy.op,.int .i64 yy.val,.string yy.nm,.int .i64 yy.pos,.int .i64 yy.aG,.slice oy ny ny,.string yz.op,.int .i64 yz.val,.string yz.nm,.int .i64 yz.pos,.int .i64 yz.aG,.slice oz nz nz] 30));have HF9:=Lib.hid (HF.out _ K9.out.IQ K9.out.qB);have jI:=Lib.hid K9.out.blk4;have aar:=Lib.hid (fun v0 v1 v2 v3 v4 v5=>HF.out _ ((bg _ w.heap.size v0 v1 v2 v3 v4 v5 A HNE.out.1).trans K9.out.IQ) ((bg _ w.heap.size v0 v1 v2 v3 v4 v5 B HNE.out.2).trans K9.out.qB));unfold jJ at aar;obtain ⟨⟨z0,z1,z2,z3,z4,z5⟩,y0,y1,y2,y3,y4,y5⟩:=aA jI.out))
 have h8s:=H8S.out
 have h7s:=H7S.out
 have hdr:w7.drew.heap.size=w7.heap.size:=rfl
 obtain ⟨V,hV⟩: ∃V:World,V=jJ (w8.alloc (.cells #[.string yb.op,.int .i64 yb.val,.string yb.nm,.int .i64 yb.pos,.int .i64 yb.aG,.slice oa na na,.string yy.op,.int .i64 yy.val,.string yy.nm,.int .i64 yy.pos,.int .i64 yy.aG,.slice oy ny ny,.string yz.op,.int .i64 yz.val,.string yz.nm,.int .i64 yz.pos,.int .i64 yz.aG,.slice oz nz nz] 30)) w.heap.size (.string ⟨#[63]⟩) (.int .i64 0) (.string ⟨#[]⟩) (.int .i64 p1) (.int .i64 0) (.slice (some ⟨w8.heap.size,0,none⟩) 3 3):=⟨_,rfl⟩
 have hV':=hV
 unfold jJ at hV'
 rw [←hV']
 clear hV'
 have VK:Hid (∀k',k'≠w.heap.size→k'<w8.heap.size→V.heap[k']? =w8.heap[k']?):=Lib.hid fun k' h1 h2=>by rw [hV];exact (bg _ _ _ _ _ _ _ _ _ h1).trans (aB _ _ _ h2)
 have Q5:Hid (V.heap[w.heap.size]? =some (.cells #[.string ⟨#[63]⟩,.int .i64 0,.string ⟨#[]⟩,.int .i64 p1,.int .i64 0,.slice (some ⟨w8.heap.size,0,none⟩) 3 3] 30)):=Lib.hid (by rw [hV];exact pF jI.out _ _ _ _ _ _)
 have Q7:Hid (Ch rb w V):=Lib.hid (by rw [hV];exact qV K9.out.ch (Nat.le_refl _) (Nat.le_of_lt hrw) _ _ _ _ _ _)
 have WY:Hid (V.heap[w8.heap.size]? =some (.cells #[.string yb.op,.int .i64 yb.val,.string yb.nm,.int .i64 yb.pos,.int .i64 yb.aG,.slice oa na na,.string yy.op,.int .i64 yy.val,.string yy.nm,.int .i64 yy.pos,.int .i64 yy.aG,.slice oy ny ny,.string yz.op,.int .i64 yz.val,.string yz.nm,.int .i64 yz.pos,.int .i64 yz.aG,.slice oz nz nz] 30)):=Lib.hid (by rw [hV];exact (bg _ _ _ _ _ _ _ _ _ (by omega)).trans (heap_alloc_last w8 _))
 have HVQ:Hid (Dp l bv rb (n+1) w.heap.size res yz (.slice oz nz nz) V):=Lib.hid (HQ.out.move (VK.out _ (by omega) (by omega)) (mW HS.out yx.out Q7.out) (fun k' hk' hs'=>VK.out _ (by omega) hs') (by omega) (Nat.le_succ _))
 have HIA8:=Lib.hid (HIA7.out.ch (by omega) (nH HC8.out))
 have HIY8:=Lib.hid (HIY7.out.ch (by omega) (nH HC8.out))
 have Gg:Hid (yb.In V w.heap.size (.slice oa na na)):=Lib.hid ((HIA8.out.kept (fun k' hk' hs'=>VK.out _ (by omega) hs') _ _).mono (by omega) _ _)
 have HVY:Hid (yy.In V w.heap.size (.slice oy ny ny)):=Lib.hid ((HIY8.out.kept (fun k' hk' hs'=>VK.out _ (by omega) hs') _ _).mono (by omega) _ _)
 clear hV z0 z1 z2 z3 z4 z5 y0 y1 y2 y3 y4 y5 aar
 go_wp2_with fail
 refine bodyPost_ret (aI rfl _ _ w.heap.size _ rfl Q5.out rfl) rfl ⟨⟨.cond iE p1 yb yy yz,_,_,rfl,?_⟩,Q7.out⟩
 rw [aam.out]
 exact HVQ.out.cond Gg.out HVY.out WY.out (Nat.le_of_lt h8s) iE p1
end Go.Proofs.YtacfglopionkfaaGreatDoor
