import Derived.Test.YtacfglopionkfaaGreatDoorKLw
import Derived.Test.YtacfglopionkfaaGreatDoorAcRn
import Derived.Test.YtacfglopionkfaaGreatDoorKVa
import Derived.Test.YtacfglopionkfaaGreatDoorKLi
namespace Go.Proofs.YtacfglopionkfaaGreatDoor
set_option maxRecDepth 100000
open Go.RowKit
def SetA (l:List Int) (k:Nat):Prop:=l.getD k 0=61∧(k=0∨(¬l.getD (k - 1) 0=61∧ ¬l.getD (k - 1) 0=33∧ ¬l.getD (k - 1) 0=60∧ ¬l.getD (k - 1) 0=62))∧(k+1=l.length∨ ¬l.getD (k+1) 0=61)
def SetB (l:List Int) (k:Nat):Prop:=l.getD k 0=61∧1<k∧l.getD (k - 1) 0=l.getD (k - 2) 0∧(l.getD (k - 1) 0=60∨l.getD (k - 1) 0=62)
def SetQ (l:List Int) (e:Ending):Prop:= ∃q,e= .returned (.bool q)∧(q=false→ ∀i,i<l.length→ ¬Zd l i)
theorem SetQ.yes (l:List Int):SetQ l (.returned (.bool true)):=⟨true,rfl,fun h=>by cases h⟩
theorem setI_or {l:List Int} {k:Nat} (h:Zd l k):SetA l k∨SetB l k:=h.2.elim (fun x=>Or.inl ⟨h.1,x⟩) (fun x=>Or.inr ⟨h.1,x⟩)
set_option maxHeartbeats 4000000 in
theorem WQ (a:Option Addr) (cap:Nat) (w:World):Calls Tryz.prog 32 #[.slice a 0 cap] w fun e w'=>e= .returned (.bool false)∧w=w':=by
 go_enter Tryz.func32,Tryz.ntmps32
 go_wp2_with fail
 go_loop [3,4,7] (fun _ _ i=>i= .int .i64 0) (fun _ _ _=>0)
 case atStart=>rfl
 case round=>
  obtain rfl:=hrel
  go_wp2_with fail
  go_ret
  exact ⟨rfl,rfl⟩
set_option maxHeartbeats 16000000 in
theorem aaX (b o cap:Nat) (l:List Int) (w:World) (hl:l.length≤9223372036854775807) (hr:Row w b o l) (hblt:b<w.heap.size):Calls Tryz.prog 32 #[.slice (some ⟨b,o,none⟩) l.length cap] w fun e w'=>SetQ l e∧Below w.heap.size w w':=by
 obtain ⟨n,hn⟩: ∃n,n=l.length:=⟨_,rfl⟩
 have HN:=Lib.hid hn
 have HR:=Lib.hid hr
 have lM:=Lib.hid hblt
 rw [←hn] at hl
 rw [←hn]
 clear hn hr hblt
 go_enter Tryz.func32,Tryz.ntmps32
 go_wp2_with fail
 go_loopw [3,4,7] (fun _ _ i X=> ∃k:Nat,i= .int .i64 (k:Nat)∧k≤n∧(∀j,j<k→ ¬Zd l j)∧Below w.heap.size w X) (fun _ _ i _=>n - (intOf i).toNat)
 case atStart=>exact ⟨0,rfl,Nat.zero_le _,fun j hj=>by omega,Below.refl _ _⟩
 case round=>
  obtain ⟨k,rfl,hk,hsm,hbl⟩:=hrel
  have HB:=Lib.hid hbl
  have HSM:=Lib.hid hsm
  clear hbl hsm
  by_cases hlt:k<n
  case neg=>
   obtain rfl:k=n:=by omega
   go_wp2_with fail
   go_ret
   exact ⟨⟨false,rfl,fun _ i hi=>HSM.out i (by have:=HN.out;omega)⟩,HB.out⟩
  have Ap:Hid (∀i,i<n→wr.cell? ⟨b,o+i,none⟩=some (.int .u8 (l.getD i 0))):=Lib.hid (fun i hi=>(HB.out.cell (p:=⟨b,o+i,none⟩) lM.out).trans (HR.out i (by rw [←HN.out];exact hi)))
  have WW:(k:Int)<(n:Int):=by omega
  have c0:=Ap.out k hlt
  obtain ⟨c,hc⟩: ∃c,c=l.getD k 0:=⟨_,rfl⟩
  rw [←hc] at c0
  have HC:=Lib.hid hc
  clear hc
  go_upto_region 4 with fail
  go_cut [7,64] from 7 to 100 (fun s7 s64 X=>s7= .int .i64 (k:Nat)∧(∃q,s64= .bool q∧(q=false→ ¬SetA l k))∧wr=X)
  case first=>
   by_cases h61:c=61
   case neg=>
    have d1:decide (c=61)=false:=decide_eq_false h61
    go_wp2_with fail
    go_meet
    exact ⟨rfl,⟨false,rfl,fun _=>fun h=>h61 (HC.out.trans h.1)⟩,rfl⟩
   subst h61
   rcases Nat.eq_zero_or_pos k with rfl | hkp
   ·simp only [Nat.add_zero] at c0
    by_cases h1n:1=n
    ·subst h1n
     go_wp2_with fail
     go_meet
     exact ⟨rfl,⟨true,rfl,fun h=>(by cases h)⟩,rfl⟩
    ·have c1:=Ap.out 1 (by omega)
     obtain ⟨d,hd⟩: ∃d,d=l.getD 1 0:=⟨_,rfl⟩
     rw [←hd] at c1
     have HD:=Lib.hid hd
     clear hd
     have h1I:decide ((1:Int)=(n:Int))=false:=decide_eq_false (by omega)
     have h1J:decide (1=n)=false:=decide_eq_false h1n
     have h1L:(1:Int)<(n:Int):=by omega
     by_cases hd61:d=61
     ·subst hd61
      go_wp2_with fail
      go_meet
      exact ⟨rfl,⟨false,rfl,fun _=>fun h=>by rcases h.2.2 with h | h;(have:=HN.out;omega);exact h HD.out.symm⟩,rfl⟩
     ·have d2:(d !=61)=true:=bne_iff_ne.2 hd61
      go_wp2_with fail
      go_meet
      exact ⟨rfl,⟨true,rfl,fun h=>(by cases h)⟩,rfl⟩
   obtain ⟨j,rfl⟩: ∃j,k=j+1:=⟨k - 1,by omega⟩
   have c1:=Ap.out j (by omega)
   obtain ⟨p,hp⟩: ∃p,p=l.getD j 0:=⟨_,rfl⟩
   rw [←hp] at c1
   have HP:=Lib.hid hp
   clear hp
   have hj1: ¬((j:Int)+1=0):=by omega
   have hj2:decide ((j:Int)+1=0)=false:=decide_eq_false hj1
   have hj3:((j:Int)+1) - 1=j:=by omega
   have hjn:(j:Int)<(n:Int):=by omega
   by_cases hp61:p=61
   ·subst hp61
    go_wp2_with fail
    go_meet
    exact ⟨rfl,⟨false,rfl,fun _=>fun h=>by rcases h.2.1 with h | h;omega;(have hP:=HP.out;rw [Nat.add_sub_cancel] at h;omega)⟩,rfl⟩
   by_cases hp33:p=33
   ·subst hp33
    go_wp2_with fail
    go_meet
    exact ⟨rfl,⟨false,rfl,fun _=>fun h=>by rcases h.2.1 with h | h;omega;(have hP:=HP.out;rw [Nat.add_sub_cancel] at h;omega)⟩,rfl⟩
   by_cases hp60:p=60
   ·subst hp60
    go_wp2_with fail
    go_meet
    exact ⟨rfl,⟨false,rfl,fun _=>fun h=>by rcases h.2.1 with h | h;omega;(have hP:=HP.out;rw [Nat.add_sub_cancel] at h;omega)⟩,rfl⟩
   by_cases hp62:p=62
   ·subst hp62
    go_wp2_with fail
    go_meet
    exact ⟨rfl,⟨false,rfl,fun _=>fun h=>by rcases h.2.1 with h | h;omega;(have hP:=HP.out;rw [Nat.add_sub_cancel] at h;omega)⟩,rfl⟩
   have e61:decide (p=61)=false:=decide_eq_false hp61
   have e33:decide (p=33)=false:=decide_eq_false hp33
   have e60:decide (p=60)=false:=decide_eq_false hp60
   have e62:decide (p=62)=false:=decide_eq_false hp62
   by_cases h1n:j+1+1=n
   ·have h1I:decide ((j:Int)+1+1=(n:Int))=true:=decide_eq_true (by omega)
    have h1K:(j:Int)+1+1=(n:Int):=by omega
    go_wp2_with fail
    go_meet
    exact ⟨rfl,⟨true,rfl,fun h=>(by cases h)⟩,rfl⟩
   have h1I:decide ((j:Int)+1+1=(n:Int))=false:=decide_eq_false (by omega)
   have h1K: ¬(j:Int)+1+1=(n:Int):=by omega
   have h1L:(j:Int)+1+1<(n:Int):=by omega
   have c3:=Ap.out (j+1+1) (by omega)
   obtain ⟨d,hd⟩: ∃d,d=l.getD (j+1+1) 0:=⟨_,rfl⟩
   rw [←hd] at c3
   have HD:=Lib.hid hd
   clear hd
   by_cases hd61:d=61
   ·subst hd61
    go_wp2_with fail
    go_meet
    exact ⟨rfl,⟨false,rfl,fun _=>fun h=>by rcases h.2.2 with h | h;(have:=HN.out;omega);exact h HD.out.symm⟩,rfl⟩
   ·have d2:(d !=61)=true:=bne_iff_ne.2 hd61
    go_wp2_with fail
    go_meet
    exact ⟨rfl,⟨true,rfl,fun h=>(by cases h)⟩,rfl⟩
  obtain ⟨rfl,⟨q1,rfl,hq1⟩,rfl⟩:=hcut
  have rH:=Lib.hid hq1
  clear hq1
  cases q1 with
  | true=>
   go_wp2_with fail
   go_ret
   exact ⟨SetQ.yes l,HB.out⟩
  | false=>
  go_upto_region 6 with fail
  go_cut [7,99] from 7 to 100 (fun s7 s99 X=>s7= .int .i64 (k:Nat)∧(∃q,s99= .bool q∧(q=false→ ¬SetB l k))∧Below w.heap.size w X)
  case first=>
   by_cases h61:c=61
   case neg=>
    have d1:(c==61)=false:=beq_eq_false_iff_ne.2 h61
    refine Reg.bI (fun X=>Below wr.heap.size wr X) (fun j=>([some (.int .u8 c),some (.bool false),some (.bool false),some undef,some undef,some (.bool false),some (.bool false),some undef,some undef,some undef,some undef,some undef,some undef,some undef,some undef,some undef,some undef,some undef,some (.bool false),some (.bool false),some undef,some undef,some undef,some undef,some undef,some undef,some undef,some undef,some undef,some undef,some undef,some undef,some undef,some undef,some (.bool false)]:List (Option Value)).getD j none) (fun _ _ _=>True) (by kernel_rfl) (by kernel_rfl) (by kernel_rfl) (by kernel_rfl) ?iY ?rsE ?iW
    case iY=>exact (Below.refl _ _).drew
    case rsE=>
     refine Reg.ah.plain rfl (fun T X hS hk K hK=>?_) ?_
     ·have g4:=hk.old 4 rfl
      have hK:=hK _ X hS (Reg.Is.aj rfl) (fun _ _ _ h=>h)
      clear hk
      go_simp
      exact hK
     refine Reg.ah.plain rfl (fun T X hS hk K hK=>?_) ?_
     ·have ZV:=hk.val 0 65 rfl
      have hK:=hK _ X hS (Reg.Is.aj rfl) (fun _ _ _ h=>h)
      clear hk
      go_simp
      first
       | exact hK
       | (rw [d1];exact hK)
     refine Reg.ah.plain rfl (fun T X hS hk K hK=>?_) ?_
     ·have g66:=hk.val 1 66 rfl
      have hK:=hK _ X hS (Reg.Is.aj rfl) (fun _ _ _ h=>h)
      clear hk
      go_simp
      exact hK
     refine Reg.ah.passed 2 67 false rfl (by kernel_rfl) (by kernel_rfl) rfl rfl ?_
     refine Reg.ah.passed 2 67 false rfl (by kernel_rfl) (by kernel_rfl) rfl rfl ?_
     refine Reg.ah.plain rfl (fun T X hS hk K hK=>?_) ?_
     ·have g67:=hk.val 2 67 rfl
      have g69:=hk.val 4 69 rfl
      have hK:=hK _ X hS (Reg.Is.aj rfl) (fun _ _ _ h=>h)
      clear hk
      go_simp
      exact hK
     refine Reg.ah.plain rfl (fun T X hS hk K hK=>?_) ?_
     ·have g70:=hk.val 5 70 rfl
      have hK:=hK _ X hS (Reg.Is.aj rfl) (fun _ _ _ h=>h)
      clear hk
      go_simp
      exact hK
     refine Reg.ah.passed 6 71 false rfl (by kernel_rfl) (by kernel_rfl) rfl rfl ?_
     refine Reg.ah.passed 6 71 false rfl (by kernel_rfl) (by kernel_rfl) rfl rfl ?_
     refine Reg.ah.passed 6 71 false rfl (by kernel_rfl) (by kernel_rfl) rfl rfl ?_
     refine Reg.ah.passed 6 71 false rfl (by kernel_rfl) (by kernel_rfl) rfl rfl ?_
     refine Reg.ah.passed 6 71 false rfl (by kernel_rfl) (by kernel_rfl) rfl rfl ?_
     refine Reg.ah.passed 6 71 false rfl (by kernel_rfl) (by kernel_rfl) rfl rfl ?_
     refine Reg.ah.passed 6 71 false rfl (by kernel_rfl) (by kernel_rfl) rfl rfl ?_
     refine Reg.ah.passed 6 71 false rfl (by kernel_rfl) (by kernel_rfl) rfl rfl ?_
     refine Reg.ah.passed 6 71 false rfl (by kernel_rfl) (by kernel_rfl) rfl rfl ?_
     refine Reg.ah.passed 6 71 false rfl (by kernel_rfl) (by kernel_rfl) rfl rfl ?_
     refine Reg.ah.passed 6 71 false rfl (by kernel_rfl) (by kernel_rfl) rfl rfl ?_
     refine Reg.ah.plain rfl (fun T X hS hk K hK=>?_) ?_
     ·have g71:=hk.val 6 71 rfl
      have g82:=hk.val 17 82 rfl
      have hK:=hK _ X hS (Reg.Is.aj rfl) (fun _ _ _ h=>h)
      clear hk
      go_simp
      exact hK
     refine Reg.ah.plain rfl (fun T X hS hk K hK=>?_) ?_
     ·have g83:=hk.val 18 83 rfl
      have hK:=hK _ X hS (Reg.Is.aj rfl) (fun _ _ _ h=>h)
      clear hk
      go_simp
      exact hK
     refine Reg.ah.passed 19 84 false rfl (by kernel_rfl) (by kernel_rfl) rfl rfl ?_
     refine Reg.ah.passed 19 84 false rfl (by kernel_rfl) (by kernel_rfl) rfl rfl ?_
     refine Reg.ah.passed 19 84 false rfl (by kernel_rfl) (by kernel_rfl) rfl rfl ?_
     refine Reg.ah.passed 19 84 false rfl (by kernel_rfl) (by kernel_rfl) rfl rfl ?_
     refine Reg.ah.passed 19 84 false rfl (by kernel_rfl) (by kernel_rfl) rfl rfl ?_
     refine Reg.ah.passed 19 84 false rfl (by kernel_rfl) (by kernel_rfl) rfl rfl ?_
     refine Reg.ah.passed 19 84 false rfl (by kernel_rfl) (by kernel_rfl) rfl rfl ?_
     refine Reg.ah.qW 26 91 false rfl (by kernel_rfl) (by kernel_rfl) rfl rfl ?_
     refine Reg.ah.qW 26 91 false rfl (by kernel_rfl) (by kernel_rfl) rfl rfl ?_
     refine Reg.ah.qW 26 91 false rfl (by kernel_rfl) (by kernel_rfl) rfl rfl ?_
     refine Reg.ah.qW 26 91 false rfl (by kernel_rfl) (by kernel_rfl) rfl rfl ?_
     refine Reg.ah.qW 26 91 false rfl (by kernel_rfl) (by kernel_rfl) rfl rfl ?_
     refine Reg.ah.qW 26 91 false rfl (by kernel_rfl) (by kernel_rfl) rfl rfl ?_
     refine Reg.ah.passed 19 84 false rfl (by kernel_rfl) (by kernel_rfl) rfl rfl ?_
     refine Reg.ah.plain rfl (fun T X hS hk K hK=>?_) ?_
     ·have g84:=hk.val 19 84 rfl
      have g98:=hk.val 33 98 rfl
      have hK:=hK _ X hS (Reg.Is.aj rfl) (fun _ _ _ h=>h)
      clear hk
      go_simp
      exact hK
     exact Reg.ah.nil
    case iW=>
     intro u w1 hS hI
     have e0:u 0= .int .u8 c:=(hI 0 (by decide)).val rfl
     have e1:u 1= .bool false:=(hI 1 (by decide)).val rfl
     have e2:u 2= .bool false:=(hI 2 (by decide)).val rfl
     have e3:u 3=undef:=(hI 3 (by decide)).val rfl
     have e4:u 4=undef:=(hI 4 (by decide)).val rfl
     have e5:u 5= .bool false:=(hI 5 (by decide)).val rfl
     have e6:u 6= .bool false:=(hI 6 (by decide)).val rfl
     have e7:u 7=undef:=(hI 7 (by decide)).val rfl
     have e8:u 8=undef:=(hI 8 (by decide)).val rfl
     have e9:u 9=undef:=(hI 9 (by decide)).val rfl
     have e10:u 10=undef:=(hI 10 (by decide)).val rfl
     have e11:u 11=undef:=(hI 11 (by decide)).val rfl
     have e12:u 12=undef:=(hI 12 (by decide)).val rfl
     have e13:u 13=undef:=(hI 13 (by decide)).val rfl
     have e14:u 14=undef:=(hI 14 (by decide)).val rfl
     have e15:u 15=undef:=(hI 15 (by decide)).val rfl
     have e16:u 16=undef:=(hI 16 (by decide)).val rfl
     have e17:u 17=undef:=(hI 17 (by decide)).val rfl
     have e18:u 18= .bool false:=(hI 18 (by decide)).val rfl
     have e19:u 19= .bool false:=(hI 19 (by decide)).val rfl
     have e20:u 20=undef:=(hI 20 (by decide)).val rfl
     have e21:u 21=undef:=(hI 21 (by decide)).val rfl
     have e22:u 22=undef:=(hI 22 (by decide)).val rfl
     have e23:u 23=undef:=(hI 23 (by decide)).val rfl
     have e24:u 24=undef:=(hI 24 (by decide)).val rfl
     have e25:u 25=undef:=(hI 25 (by decide)).val rfl
     have e26:u 26=undef:=(hI 26 (by decide)).val rfl
     have e27:u 27=undef:=(hI 27 (by decide)).val rfl
     have e28:u 28=undef:=(hI 28 (by decide)).val rfl
     have e29:u 29=undef:=(hI 29 (by decide)).val rfl
     have e30:u 30=undef:=(hI 30 (by decide)).val rfl
     have e31:u 31=undef:=(hI 31 (by decide)).val rfl
     have e32:u 32=undef:=(hI 32 (by decide)).val rfl
     have e33:u 33=undef:=(hI 33 (by decide)).val rfl
     have e34:u 34= .bool false:=(hI 34 (by decide)).val rfl
     clear hI
     simp only [Reg.aK,Act.put,List.setIfInBounds_toArray,List.set_cons_succ,List.set_cons_zero,Nat.zero_add,Nat.reduceAdd,e0,e1,e2,e3,e4,e5,e6,e7,e8,e9,e10,e11,e12,e13,e14,e15,e16,e17,e18,e19,e20,e21,e22,e23,e24,e25,e26,e27,e28,e29,e30,e31,e32,e33,e34]
     clear e0 e1 e2 e3 e4 e5 e6 e7 e8 e9 e10 e11 e12 e13 e14 e15 e16 e17 e18 e19 e20 e21 e22 e23 e24 e25 e26 e27 e28 e29 e30 e31 e32 e33 e34
     go_wp2_with fail
     go_meet
     exact ⟨rfl,⟨false,rfl,fun _=>fun h=>h61 (HC.out.trans h.1)⟩,HB.out.trans (hS.mono HB.out.size)⟩
   subst h61
   by_cases hk1:k≤1
   ·have hk2:decide ((1:Int)<(k:Int))=false:=decide_eq_false (by omega)
    refine Reg.bI (fun X=>Below wr.heap.size wr X) (fun j=>([some (.int .u8 61),some (.bool true),some (.bool true),some (.int .i64 (k:Nat)),some (.bool false),some (.bool false),some (.bool false),some undef,some undef,some undef,some undef,some undef,some undef,some undef,some undef,some undef,some undef,some undef,some (.bool false),some (.bool false),some undef,some undef,some undef,some undef,some undef,some undef,some undef,some undef,some undef,some undef,some undef,some undef,some undef,some undef,some (.bool false)]:List (Option Value)).getD j none) (fun _ _ _=>True) (by kernel_rfl) (by kernel_rfl) (by kernel_rfl) (by kernel_rfl) ?iY ?rsE ?iW
    case iY=>exact (Below.refl _ _).drew
    case rsE=>
     refine Reg.ah.plain rfl (fun T X hS hk K hK=>?_) ?_
     ·have g4:=hk.old 4 rfl
      have hK:=hK _ X hS (Reg.Is.aj rfl) (fun _ _ _ h=>h)
      clear hk
      go_simp
      exact hK
     refine Reg.ah.plain rfl (fun T X hS hk K hK=>?_) ?_
     ·have ZV:=hk.val 0 65 rfl
      have hK:=hK _ X hS (Reg.Is.aj rfl) (fun _ _ _ h=>h)
      clear hk
      go_simp
      exact hK
     refine Reg.ah.plain rfl (fun T X hS hk K hK=>?_) ?_
     ·have g66:=hk.val 1 66 rfl
      have hK:=hK _ X hS (Reg.Is.aj rfl) (fun _ _ _ h=>h)
      clear hk
      go_simp
      exact hK
     refine Reg.ah.guarded 2 67 true rfl (by kernel_rfl) (by kernel_rfl) rfl (fun T X hS hk K hK=>?_) ?_
     ·have g3:=hk.old 3 rfl
      have hK:=hK _ X hS (Reg.Is.aj rfl) (fun _ _ _ h=>h)
      clear hk
      go_simp
      exact hK
     refine Reg.ah.guarded 2 67 true rfl (by kernel_rfl) (by kernel_rfl) rfl (fun T X hS hk K hK=>?_) ?_
     ·have g68:=hk.val 3 68 rfl
      have hK:=hK _ X hS (Reg.Is.aj rfl) (fun _ _ _ h=>h)
      clear hk
      go_simp
      first
       | exact hK
       | (rw [hk2];exact hK)
     refine Reg.ah.plain rfl (fun T X hS hk K hK=>?_) ?_
     ·have g67:=hk.val 2 67 rfl
      have g69:=hk.val 4 69 rfl
      have hK:=hK _ X hS (Reg.Is.aj rfl) (fun _ _ _ h=>h)
      clear hk
      go_simp
      exact hK
     refine Reg.ah.plain rfl (fun T X hS hk K hK=>?_) ?_
     ·have g70:=hk.val 5 70 rfl
      have hK:=hK _ X hS (Reg.Is.aj rfl) (fun _ _ _ h=>h)
      clear hk
      go_simp
      exact hK
     refine Reg.ah.passed 6 71 false rfl (by kernel_rfl) (by kernel_rfl) rfl rfl ?_
     refine Reg.ah.passed 6 71 false rfl (by kernel_rfl) (by kernel_rfl) rfl rfl ?_
     refine Reg.ah.passed 6 71 false rfl (by kernel_rfl) (by kernel_rfl) rfl rfl ?_
     refine Reg.ah.passed 6 71 false rfl (by kernel_rfl) (by kernel_rfl) rfl rfl ?_
     refine Reg.ah.passed 6 71 false rfl (by kernel_rfl) (by kernel_rfl) rfl rfl ?_
     refine Reg.ah.passed 6 71 false rfl (by kernel_rfl) (by kernel_rfl) rfl rfl ?_
     refine Reg.ah.passed 6 71 false rfl (by kernel_rfl) (by kernel_rfl) rfl rfl ?_
     refine Reg.ah.passed 6 71 false rfl (by kernel_rfl) (by kernel_rfl) rfl rfl ?_
     refine Reg.ah.passed 6 71 false rfl (by kernel_rfl) (by kernel_rfl) rfl rfl ?_
     refine Reg.ah.passed 6 71 false rfl (by kernel_rfl) (by kernel_rfl) rfl rfl ?_
     refine Reg.ah.passed 6 71 false rfl (by kernel_rfl) (by kernel_rfl) rfl rfl ?_
     refine Reg.ah.plain rfl (fun T X hS hk K hK=>?_) ?_
     ·have g71:=hk.val 6 71 rfl
      have g82:=hk.val 17 82 rfl
      have hK:=hK _ X hS (Reg.Is.aj rfl) (fun _ _ _ h=>h)
      clear hk
      go_simp
      exact hK
     refine Reg.ah.plain rfl (fun T X hS hk K hK=>?_) ?_
     ·have g83:=hk.val 18 83 rfl
      have hK:=hK _ X hS (Reg.Is.aj rfl) (fun _ _ _ h=>h)
      clear hk
      go_simp
      exact hK
     refine Reg.ah.passed 19 84 false rfl (by kernel_rfl) (by kernel_rfl) rfl rfl ?_
     refine Reg.ah.passed 19 84 false rfl (by kernel_rfl) (by kernel_rfl) rfl rfl ?_
     refine Reg.ah.passed 19 84 false rfl (by kernel_rfl) (by kernel_rfl) rfl rfl ?_
     refine Reg.ah.passed 19 84 false rfl (by kernel_rfl) (by kernel_rfl) rfl rfl ?_
     refine Reg.ah.passed 19 84 false rfl (by kernel_rfl) (by kernel_rfl) rfl rfl ?_
     refine Reg.ah.passed 19 84 false rfl (by kernel_rfl) (by kernel_rfl) rfl rfl ?_
     refine Reg.ah.passed 19 84 false rfl (by kernel_rfl) (by kernel_rfl) rfl rfl ?_
     refine Reg.ah.qW 26 91 false rfl (by kernel_rfl) (by kernel_rfl) rfl rfl ?_
     refine Reg.ah.qW 26 91 false rfl (by kernel_rfl) (by kernel_rfl) rfl rfl ?_
     refine Reg.ah.qW 26 91 false rfl (by kernel_rfl) (by kernel_rfl) rfl rfl ?_
     refine Reg.ah.qW 26 91 false rfl (by kernel_rfl) (by kernel_rfl) rfl rfl ?_
     refine Reg.ah.qW 26 91 false rfl (by kernel_rfl) (by kernel_rfl) rfl rfl ?_
     refine Reg.ah.qW 26 91 false rfl (by kernel_rfl) (by kernel_rfl) rfl rfl ?_
     refine Reg.ah.passed 19 84 false rfl (by kernel_rfl) (by kernel_rfl) rfl rfl ?_
     refine Reg.ah.plain rfl (fun T X hS hk K hK=>?_) ?_
     ·have g84:=hk.val 19 84 rfl
      have g98:=hk.val 33 98 rfl
      have hK:=hK _ X hS (Reg.Is.aj rfl) (fun _ _ _ h=>h)
      clear hk
      go_simp
      exact hK
     exact Reg.ah.nil
    case iW=>
     intro u w1 hS hI
     have e0:u 0= .int .u8 61:=(hI 0 (by decide)).val rfl
     have e1:u 1= .bool true:=(hI 1 (by decide)).val rfl
     have e2:u 2= .bool true:=(hI 2 (by decide)).val rfl
     have e3:u 3= .int .i64 (k:Nat):=(hI 3 (by decide)).val rfl
     have e4:u 4= .bool false:=(hI 4 (by decide)).val rfl
     have e5:u 5= .bool false:=(hI 5 (by decide)).val rfl
     have e6:u 6= .bool false:=(hI 6 (by decide)).val rfl
     have e7:u 7=undef:=(hI 7 (by decide)).val rfl
     have e8:u 8=undef:=(hI 8 (by decide)).val rfl
     have e9:u 9=undef:=(hI 9 (by decide)).val rfl
     have e10:u 10=undef:=(hI 10 (by decide)).val rfl
     have e11:u 11=undef:=(hI 11 (by decide)).val rfl
     have e12:u 12=undef:=(hI 12 (by decide)).val rfl
     have e13:u 13=undef:=(hI 13 (by decide)).val rfl
     have e14:u 14=undef:=(hI 14 (by decide)).val rfl
     have e15:u 15=undef:=(hI 15 (by decide)).val rfl
     have e16:u 16=undef:=(hI 16 (by decide)).val rfl
     have e17:u 17=undef:=(hI 17 (by decide)).val rfl
     have e18:u 18= .bool false:=(hI 18 (by decide)).val rfl
     have e19:u 19= .bool false:=(hI 19 (by decide)).val rfl
     have e20:u 20=undef:=(hI 20 (by decide)).val rfl
     have e21:u 21=undef:=(hI 21 (by decide)).val rfl
     have e22:u 22=undef:=(hI 22 (by decide)).val rfl
     have e23:u 23=undef:=(hI 23 (by decide)).val rfl
     have e24:u 24=undef:=(hI 24 (by decide)).val rfl
     have e25:u 25=undef:=(hI 25 (by decide)).val rfl
     have e26:u 26=undef:=(hI 26 (by decide)).val rfl
     have e27:u 27=undef:=(hI 27 (by decide)).val rfl
     have e28:u 28=undef:=(hI 28 (by decide)).val rfl
     have e29:u 29=undef:=(hI 29 (by decide)).val rfl
     have e30:u 30=undef:=(hI 30 (by decide)).val rfl
     have e31:u 31=undef:=(hI 31 (by decide)).val rfl
     have e32:u 32=undef:=(hI 32 (by decide)).val rfl
     have e33:u 33=undef:=(hI 33 (by decide)).val rfl
     have e34:u 34= .bool false:=(hI 34 (by decide)).val rfl
     clear hI
     simp only [Reg.aK,Act.put,List.setIfInBounds_toArray,List.set_cons_succ,List.set_cons_zero,Nat.zero_add,Nat.reduceAdd,e0,e1,e2,e3,e4,e5,e6,e7,e8,e9,e10,e11,e12,e13,e14,e15,e16,e17,e18,e19,e20,e21,e22,e23,e24,e25,e26,e27,e28,e29,e30,e31,e32,e33,e34]
     clear e0 e1 e2 e3 e4 e5 e6 e7 e8 e9 e10 e11 e12 e13 e14 e15 e16 e17 e18 e19 e20 e21 e22 e23 e24 e25 e26 e27 e28 e29 e30 e31 e32 e33 e34
     go_wp2_with fail
     go_meet
     exact ⟨rfl,⟨false,rfl,fun _=>fun h=>by have:=h.2.1;omega⟩,HB.out.trans (hS.mono HB.out.size)⟩
   obtain ⟨i,rfl⟩: ∃i,k=i+1+1:=⟨k - 2,by omega⟩
   have c1:=Ap.out (i+1) (by omega)
   have c2:=Ap.out i (by omega)
   obtain ⟨p,hp⟩: ∃p,p=l.getD (i+1) 0:=⟨_,rfl⟩
   obtain ⟨q,hq⟩: ∃q,q=l.getD i 0:=⟨_,rfl⟩
   rw [←hp] at c1
   rw [←hq] at c2
   have HP:=Lib.hid hp
   have HQ:=Lib.hid hq
   clear hp hq
   have hblt:b<wr.heap.size:=by have:=lM.out;have:=HB.out.size;omega
   have hk2:decide ((1:Int)<(i:Int)+1+1)=true:=decide_eq_true (by omega)
   have hw1:IntKind.i64.wrap ((i:Int)+1)=((i+1:Nat):Int):=by rw [IntKind.wrap_i64];omega
   have hw2:IntKind.i64.wrap (i:Int)=(i:Int):=by rw [IntKind.wrap_i64];omega
   have hi1:(i:Int)+1+1 - 1=(i:Int)+1:=by omega
   have hi2:(i:Int)+1+1 - 2=(i:Int):=by omega
   have hin:(i:Int)<(n:Int):=by omega
   have hin1:(i:Int)+1<(n:Int):=by omega
   by_cases hpq:p=q
   case neg=>
    have d6:(p==q)=false:=beq_eq_false_iff_ne.2 hpq
    refine Reg.bI (fun X=>Below wr.heap.size wr X) (fun j=>([some (.int .u8 61),some (.bool true),some (.bool true),some (.int .i64 (i+1+1:Nat)),some (.bool true),some (.bool true),some (.bool true),some (.slice (some ⟨b,o,none⟩) n cap),some (.int .i64 (i+1+1:Nat)),some (.int .i64 (i+1:Nat)),some (.pointer (some ⟨b,o+(i+1),none⟩)),some (.int .u8 p),some (.slice (some ⟨b,o,none⟩) n cap),some (.int .i64 (i+1+1:Nat)),some (.int .i64 (i:Nat)),some (.pointer (some ⟨b,o+i,none⟩)),some (.int .u8 q),some (.bool false),some (.bool false),some (.bool false),some undef,some undef,some undef,some undef,some undef,some undef,some undef,some undef,some undef,some undef,some undef,some undef,some undef,some undef,some (.bool false)]:List (Option Value)).getD j none) (fun _ _ _=>True) (by kernel_rfl) (by kernel_rfl) (by kernel_rfl) (by kernel_rfl) ?iY ?rsE ?iW
    case iY=>exact (Below.refl _ _).drew
    case rsE=>
     refine Reg.ah.plain rfl (fun T X hS hk K hK=>?_) ?_
     ·have g4:=hk.old 4 rfl
      have hK:=hK _ X hS (Reg.Is.aj rfl) (fun _ _ _ h=>h)
      clear hk
      go_simp
      exact hK
     refine Reg.ah.plain rfl (fun T X hS hk K hK=>?_) ?_
     ·have ZV:=hk.val 0 65 rfl
      have hK:=hK _ X hS (Reg.Is.aj rfl) (fun _ _ _ h=>h)
      clear hk
      go_simp
      exact hK
     refine Reg.ah.plain rfl (fun T X hS hk K hK=>?_) ?_
     ·have g66:=hk.val 1 66 rfl
      have hK:=hK _ X hS (Reg.Is.aj rfl) (fun _ _ _ h=>h)
      clear hk
      go_simp
      exact hK
     refine Reg.ah.guarded 2 67 true rfl (by kernel_rfl) (by kernel_rfl) rfl (fun T X hS hk K hK=>?_) ?_
     ·have g3:=hk.old 3 rfl
      have hK:=hK _ X hS (Reg.Is.aj rfl) (fun _ _ _ h=>h)
      clear hk
      go_simp
      exact hK
     refine Reg.ah.guarded 2 67 true rfl (by kernel_rfl) (by kernel_rfl) rfl (fun T X hS hk K hK=>?_) ?_
     ·have g68:=hk.val 3 68 rfl
      have hK:=hK _ X hS (Reg.Is.aj rfl) (fun _ _ _ h=>h)
      clear hk
      go_simp
      first
       | exact hK
       | (rw [hk2];exact hK)
     refine Reg.ah.plain rfl (fun T X hS hk K hK=>?_) ?_
     ·have g67:=hk.val 2 67 rfl
      have g69:=hk.val 4 69 rfl
      have hK:=hK _ X hS (Reg.Is.aj rfl) (fun _ _ _ h=>h)
      clear hk
      go_simp
      exact hK
     refine Reg.ah.plain rfl (fun T X hS hk K hK=>?_) ?_
     ·have g70:=hk.val 5 70 rfl
      have hK:=hK _ X hS (Reg.Is.aj rfl) (fun _ _ _ h=>h)
      clear hk
      go_simp
      exact hK
     refine Reg.ah.guarded 6 71 true rfl (by kernel_rfl) (by kernel_rfl) rfl (fun T X hS hk K hK=>?_) ?_
     ·have g0:=hk.old 0 rfl
      have hK:=hK _ X hS (Reg.Is.aj rfl) (fun _ _ _ h=>h)
      clear hk
      go_simp
      exact hK
     refine Reg.ah.guarded 6 71 true rfl (by kernel_rfl) (by kernel_rfl) rfl (fun T X hS hk K hK=>?_) ?_
     ·have g3:=hk.old 3 rfl
      have hK:=hK _ X hS (Reg.Is.aj rfl) (fun _ _ _ h=>h)
      clear hk
      go_simp
      exact hK
     refine Reg.ah.guarded 6 71 true rfl (by kernel_rfl) (by kernel_rfl) rfl (fun T X hS hk K hK=>?_) ?_
     ·have g73:=hk.val 8 73 rfl
      have hK:=hK _ X hS (Reg.Is.aj rfl) (fun _ _ _ h=>h)
      clear hk
      go_simp
      first
       | exact hK
       | (rw [hw1];exact hK)
     refine Reg.ah.guarded 6 71 true rfl (by kernel_rfl) (by kernel_rfl) rfl (fun T X hS hk K hK=>?_) ?_
     ·have g72:=hk.val 7 72 rfl
      have g74:=hk.val 9 74 rfl
      have hK:=hK _ X hS (Reg.Is.aj rfl) (fun _ _ _ h=>h)
      clear hk
      go_simp
      exact hK
     refine Reg.ah.guarded 6 71 true rfl (by kernel_rfl) (by kernel_rfl) rfl (fun T X hS hk K hK=>?_) ?_
     ·have g75:=hk.val 10 75 rfl
      have q0:X.cell? ⟨b,o+(i+1),none⟩=some (.int .u8 p):=(hS.cell (p:=⟨b,o+(i+1),none⟩) hblt).trans c1
      have hK:=hK _ X hS (Reg.Is.aj rfl) (fun _ _ _ h=>h)
      clear hk hS
      go_simp
      exact hK
     refine Reg.ah.guarded 6 71 true rfl (by kernel_rfl) (by kernel_rfl) rfl (fun T X hS hk K hK=>?_) ?_
     ·have g0:=hk.old 0 rfl
      have hK:=hK _ X hS (Reg.Is.aj rfl) (fun _ _ _ h=>h)
      clear hk
      go_simp
      exact hK
     refine Reg.ah.guarded 6 71 true rfl (by kernel_rfl) (by kernel_rfl) rfl (fun T X hS hk K hK=>?_) ?_
     ·have g3:=hk.old 3 rfl
      have hK:=hK _ X hS (Reg.Is.aj rfl) (fun _ _ _ h=>h)
      clear hk
      go_simp
      exact hK
     refine Reg.ah.guarded 6 71 true rfl (by kernel_rfl) (by kernel_rfl) rfl (fun T X hS hk K hK=>?_) ?_
     ·have g78:=hk.val 13 78 rfl
      have hK:=hK _ X hS (Reg.Is.aj rfl) (fun _ _ _ h=>h)
      clear hk
      go_simp
      first
       | exact hK
       | (rw [hw2];exact hK)
     refine Reg.ah.guarded 6 71 true rfl (by kernel_rfl) (by kernel_rfl) rfl (fun T X hS hk K hK=>?_) ?_
     ·have g77:=hk.val 12 77 rfl
      have g79:=hk.val 14 79 rfl
      have hK:=hK _ X hS (Reg.Is.aj rfl) (fun _ _ _ h=>h)
      clear hk
      go_simp
      exact hK
     refine Reg.ah.guarded 6 71 true rfl (by kernel_rfl) (by kernel_rfl) rfl (fun T X hS hk K hK=>?_) ?_
     ·have g80:=hk.val 15 80 rfl
      have q0:X.cell? ⟨b,o+i,none⟩=some (.int .u8 q):=(hS.cell (p:=⟨b,o+i,none⟩) hblt).trans c2
      have hK:=hK _ X hS (Reg.Is.aj rfl) (fun _ _ _ h=>h)
      clear hk hS
      go_simp
      exact hK
     refine Reg.ah.guarded 6 71 true rfl (by kernel_rfl) (by kernel_rfl) rfl (fun T X hS hk K hK=>?_) ?_
     ·have g76:=hk.val 11 76 rfl
      have g81:=hk.val 16 81 rfl
      have hK:=hK _ X hS (Reg.Is.aj rfl) (fun _ _ _ h=>h)
      clear hk
      go_simp
      first
       | exact hK
       | (rw [d6];exact hK)
     refine Reg.ah.plain rfl (fun T X hS hk K hK=>?_) ?_
     ·have g71:=hk.val 6 71 rfl
      have g82:=hk.val 17 82 rfl
      have hK:=hK _ X hS (Reg.Is.aj rfl) (fun _ _ _ h=>h)
      clear hk
      go_simp
      exact hK
     refine Reg.ah.plain rfl (fun T X hS hk K hK=>?_) ?_
     ·have g83:=hk.val 18 83 rfl
      have hK:=hK _ X hS (Reg.Is.aj rfl) (fun _ _ _ h=>h)
      clear hk
      go_simp
      exact hK
     refine Reg.ah.passed 19 84 false rfl (by kernel_rfl) (by kernel_rfl) rfl rfl ?_
     refine Reg.ah.passed 19 84 false rfl (by kernel_rfl) (by kernel_rfl) rfl rfl ?_
     refine Reg.ah.passed 19 84 false rfl (by kernel_rfl) (by kernel_rfl) rfl rfl ?_
     refine Reg.ah.passed 19 84 false rfl (by kernel_rfl) (by kernel_rfl) rfl rfl ?_
     refine Reg.ah.passed 19 84 false rfl (by kernel_rfl) (by kernel_rfl) rfl rfl ?_
     refine Reg.ah.passed 19 84 false rfl (by kernel_rfl) (by kernel_rfl) rfl rfl ?_
     refine Reg.ah.passed 19 84 false rfl (by kernel_rfl) (by kernel_rfl) rfl rfl ?_
     refine Reg.ah.qW 26 91 false rfl (by kernel_rfl) (by kernel_rfl) rfl rfl ?_
     refine Reg.ah.qW 26 91 false rfl (by kernel_rfl) (by kernel_rfl) rfl rfl ?_
     refine Reg.ah.qW 26 91 false rfl (by kernel_rfl) (by kernel_rfl) rfl rfl ?_
     refine Reg.ah.qW 26 91 false rfl (by kernel_rfl) (by kernel_rfl) rfl rfl ?_
     refine Reg.ah.qW 26 91 false rfl (by kernel_rfl) (by kernel_rfl) rfl rfl ?_
     refine Reg.ah.qW 26 91 false rfl (by kernel_rfl) (by kernel_rfl) rfl rfl ?_
     refine Reg.ah.passed 19 84 false rfl (by kernel_rfl) (by kernel_rfl) rfl rfl ?_
     refine Reg.ah.plain rfl (fun T X hS hk K hK=>?_) ?_
     ·have g84:=hk.val 19 84 rfl
      have g98:=hk.val 33 98 rfl
      have hK:=hK _ X hS (Reg.Is.aj rfl) (fun _ _ _ h=>h)
      clear hk
      go_simp
      exact hK
     exact Reg.ah.nil
    case iW=>
     intro u w1 hS hI
     have e0:u 0= .int .u8 61:=(hI 0 (by decide)).val rfl
     have e1:u 1= .bool true:=(hI 1 (by decide)).val rfl
     have e2:u 2= .bool true:=(hI 2 (by decide)).val rfl
     have e3:u 3= .int .i64 (i+1+1:Nat):=(hI 3 (by decide)).val rfl
     have e4:u 4= .bool true:=(hI 4 (by decide)).val rfl
     have e5:u 5= .bool true:=(hI 5 (by decide)).val rfl
     have e6:u 6= .bool true:=(hI 6 (by decide)).val rfl
     have e7:u 7= .slice (some ⟨b,o,none⟩) n cap:=(hI 7 (by decide)).val rfl
     have e8:u 8= .int .i64 (i+1+1:Nat):=(hI 8 (by decide)).val rfl
     have e9:u 9= .int .i64 (i+1:Nat):=(hI 9 (by decide)).val rfl
     have e10:u 10= .pointer (some ⟨b,o+(i+1),none⟩):=(hI 10 (by decide)).val rfl
     have e11:u 11= .int .u8 p:=(hI 11 (by decide)).val rfl
     have e12:u 12= .slice (some ⟨b,o,none⟩) n cap:=(hI 12 (by decide)).val rfl
     have e13:u 13= .int .i64 (i+1+1:Nat):=(hI 13 (by decide)).val rfl
     have e14:u 14= .int .i64 (i:Nat):=(hI 14 (by decide)).val rfl
     have e15:u 15= .pointer (some ⟨b,o+i,none⟩):=(hI 15 (by decide)).val rfl
     have e16:u 16= .int .u8 q:=(hI 16 (by decide)).val rfl
     have e17:u 17= .bool false:=(hI 17 (by decide)).val rfl
     have e18:u 18= .bool false:=(hI 18 (by decide)).val rfl
     have e19:u 19= .bool false:=(hI 19 (by decide)).val rfl
     have e20:u 20=undef:=(hI 20 (by decide)).val rfl
     have e21:u 21=undef:=(hI 21 (by decide)).val rfl
     have e22:u 22=undef:=(hI 22 (by decide)).val rfl
     have e23:u 23=undef:=(hI 23 (by decide)).val rfl
     have e24:u 24=undef:=(hI 24 (by decide)).val rfl
     have e25:u 25=undef:=(hI 25 (by decide)).val rfl
     have e26:u 26=undef:=(hI 26 (by decide)).val rfl
     have e27:u 27=undef:=(hI 27 (by decide)).val rfl
     have e28:u 28=undef:=(hI 28 (by decide)).val rfl
     have e29:u 29=undef:=(hI 29 (by decide)).val rfl
     have e30:u 30=undef:=(hI 30 (by decide)).val rfl
     have e31:u 31=undef:=(hI 31 (by decide)).val rfl
     have e32:u 32=undef:=(hI 32 (by decide)).val rfl
     have e33:u 33=undef:=(hI 33 (by decide)).val rfl
     have e34:u 34= .bool false:=(hI 34 (by decide)).val rfl
     clear hI
     simp only [Reg.aK,Act.put,List.setIfInBounds_toArray,List.set_cons_succ,List.set_cons_zero,Nat.zero_add,Nat.reduceAdd,e0,e1,e2,e3,e4,e5,e6,e7,e8,e9,e10,e11,e12,e13,e14,e15,e16,e17,e18,e19,e20,e21,e22,e23,e24,e25,e26,e27,e28,e29,e30,e31,e32,e33,e34]
     clear e0 e1 e2 e3 e4 e5 e6 e7 e8 e9 e10 e11 e12 e13 e14 e15 e16 e17 e18 e19 e20 e21 e22 e23 e24 e25 e26 e27 e28 e29 e30 e31 e32 e33 e34
     go_wp2_with fail
     go_meet
     exact ⟨rfl,⟨false,rfl,fun _=>fun h=>hpq (by rw [HP.out,HQ.out];exact h.2.2.1)⟩,HB.out.trans (hS.mono HB.out.size)⟩
   subst hpq
   by_cases h60:p=60
   ·subst h60
    refine Reg.bI (fun X=>Below wr.heap.size wr X) (fun j=>([some (.int .u8 61),some (.bool true),some (.bool true),some (.int .i64 (i+1+1:Nat)),some (.bool true),some (.bool true),some (.bool true),some (.slice (some ⟨b,o,none⟩) n cap),some (.int .i64 (i+1+1:Nat)),some (.int .i64 (i+1:Nat)),some (.pointer (some ⟨b,o+(i+1),none⟩)),some (.int .u8 60),some (.slice (some ⟨b,o,none⟩) n cap),some (.int .i64 (i+1+1:Nat)),some (.int .i64 (i:Nat)),some (.pointer (some ⟨b,o+i,none⟩)),some (.int .u8 60),some (.bool true),some (.bool true),some (.bool true),some (.slice (some ⟨b,o,none⟩) n cap),some (.int .i64 (i+1+1:Nat)),some (.int .i64 (i+1:Nat)),some (.pointer (some ⟨b,o+(i+1),none⟩)),some (.int .u8 60),some (.bool true),some (.bool true),some undef,some undef,some undef,some undef,some undef,some undef,some (.bool true),some (.bool true)]:List (Option Value)).getD j none) (fun _ _ _=>True) (by kernel_rfl) (by kernel_rfl) (by kernel_rfl) (by kernel_rfl) ?iY ?rsE ?iW
    case iY=>exact (Below.refl _ _).drew
    case rsE=>
     refine Reg.ah.plain rfl (fun T X hS hk K hK=>?_) ?_
     ·have g4:=hk.old 4 rfl
      have hK:=hK _ X hS (Reg.Is.aj rfl) (fun _ _ _ h=>h)
      clear hk
      go_simp
      exact hK
     refine Reg.ah.plain rfl (fun T X hS hk K hK=>?_) ?_
     ·have ZV:=hk.val 0 65 rfl
      have hK:=hK _ X hS (Reg.Is.aj rfl) (fun _ _ _ h=>h)
      clear hk
      go_simp
      exact hK
     refine Reg.ah.plain rfl (fun T X hS hk K hK=>?_) ?_
     ·have g66:=hk.val 1 66 rfl
      have hK:=hK _ X hS (Reg.Is.aj rfl) (fun _ _ _ h=>h)
      clear hk
      go_simp
      exact hK
     refine Reg.ah.guarded 2 67 true rfl (by kernel_rfl) (by kernel_rfl) rfl (fun T X hS hk K hK=>?_) ?_
     ·have g3:=hk.old 3 rfl
      have hK:=hK _ X hS (Reg.Is.aj rfl) (fun _ _ _ h=>h)
      clear hk
      go_simp
      exact hK
     refine Reg.ah.guarded 2 67 true rfl (by kernel_rfl) (by kernel_rfl) rfl (fun T X hS hk K hK=>?_) ?_
     ·have g68:=hk.val 3 68 rfl
      have hK:=hK _ X hS (Reg.Is.aj rfl) (fun _ _ _ h=>h)
      clear hk
      go_simp
      first
       | exact hK
       | (rw [hk2];exact hK)
     refine Reg.ah.plain rfl (fun T X hS hk K hK=>?_) ?_
     ·have g67:=hk.val 2 67 rfl
      have g69:=hk.val 4 69 rfl
      have hK:=hK _ X hS (Reg.Is.aj rfl) (fun _ _ _ h=>h)
      clear hk
      go_simp
      exact hK
     refine Reg.ah.plain rfl (fun T X hS hk K hK=>?_) ?_
     ·have g70:=hk.val 5 70 rfl
      have hK:=hK _ X hS (Reg.Is.aj rfl) (fun _ _ _ h=>h)
      clear hk
      go_simp
      exact hK
     refine Reg.ah.guarded 6 71 true rfl (by kernel_rfl) (by kernel_rfl) rfl (fun T X hS hk K hK=>?_) ?_
     ·have g0:=hk.old 0 rfl
      have hK:=hK _ X hS (Reg.Is.aj rfl) (fun _ _ _ h=>h)
      clear hk
      go_simp
      exact hK
     refine Reg.ah.guarded 6 71 true rfl (by kernel_rfl) (by kernel_rfl) rfl (fun T X hS hk K hK=>?_) ?_
     ·have g3:=hk.old 3 rfl
      have hK:=hK _ X hS (Reg.Is.aj rfl) (fun _ _ _ h=>h)
      clear hk
      go_simp
      exact hK
     refine Reg.ah.guarded 6 71 true rfl (by kernel_rfl) (by kernel_rfl) rfl (fun T X hS hk K hK=>?_) ?_
     ·have g73:=hk.val 8 73 rfl
      have hK:=hK _ X hS (Reg.Is.aj rfl) (fun _ _ _ h=>h)
      clear hk
      go_simp
      first
       | exact hK
       | (rw [hw1];exact hK)
     refine Reg.ah.guarded 6 71 true rfl (by kernel_rfl) (by kernel_rfl) rfl (fun T X hS hk K hK=>?_) ?_
     ·have g72:=hk.val 7 72 rfl
      have g74:=hk.val 9 74 rfl
      have hK:=hK _ X hS (Reg.Is.aj rfl) (fun _ _ _ h=>h)
      clear hk
      go_simp
      exact hK
     refine Reg.ah.guarded 6 71 true rfl (by kernel_rfl) (by kernel_rfl) rfl (fun T X hS hk K hK=>?_) ?_
     ·have g75:=hk.val 10 75 rfl
      have q0:X.cell? ⟨b,o+(i+1),none⟩=some (.int .u8 60):=(hS.cell (p:=⟨b,o+(i+1),none⟩) hblt).trans c1
      have hK:=hK _ X hS (Reg.Is.aj rfl) (fun _ _ _ h=>h)
      clear hk hS
      go_simp
      exact hK
     refine Reg.ah.guarded 6 71 true rfl (by kernel_rfl) (by kernel_rfl) rfl (fun T X hS hk K hK=>?_) ?_
     ·have g0:=hk.old 0 rfl
      have hK:=hK _ X hS (Reg.Is.aj rfl) (fun _ _ _ h=>h)
      clear hk
      go_simp
      exact hK
     refine Reg.ah.guarded 6 71 true rfl (by kernel_rfl) (by kernel_rfl) rfl (fun T X hS hk K hK=>?_) ?_
     ·have g3:=hk.old 3 rfl
      have hK:=hK _ X hS (Reg.Is.aj rfl) (fun _ _ _ h=>h)
      clear hk
      go_simp
      exact hK
     refine Reg.ah.guarded 6 71 true rfl (by kernel_rfl) (by kernel_rfl) rfl (fun T X hS hk K hK=>?_) ?_
     ·have g78:=hk.val 13 78 rfl
      have hK:=hK _ X hS (Reg.Is.aj rfl) (fun _ _ _ h=>h)
      clear hk
      go_simp
      first
       | exact hK
       | (rw [hw2];exact hK)
     refine Reg.ah.guarded 6 71 true rfl (by kernel_rfl) (by kernel_rfl) rfl (fun T X hS hk K hK=>?_) ?_
     ·have g77:=hk.val 12 77 rfl
      have g79:=hk.val 14 79 rfl
      have hK:=hK _ X hS (Reg.Is.aj rfl) (fun _ _ _ h=>h)
      clear hk
      go_simp
      exact hK
     refine Reg.ah.guarded 6 71 true rfl (by kernel_rfl) (by kernel_rfl) rfl (fun T X hS hk K hK=>?_) ?_
     ·have g80:=hk.val 15 80 rfl
      have q0:X.cell? ⟨b,o+i,none⟩=some (.int .u8 60):=(hS.cell (p:=⟨b,o+i,none⟩) hblt).trans c2
      have hK:=hK _ X hS (Reg.Is.aj rfl) (fun _ _ _ h=>h)
      clear hk hS
      go_simp
      exact hK
     refine Reg.ah.guarded 6 71 true rfl (by kernel_rfl) (by kernel_rfl) rfl (fun T X hS hk K hK=>?_) ?_
     ·have g76:=hk.val 11 76 rfl
      have g81:=hk.val 16 81 rfl
      have hK:=hK _ X hS (Reg.Is.aj rfl) (fun _ _ _ h=>h)
      clear hk
      go_simp
      exact hK
     refine Reg.ah.plain rfl (fun T X hS hk K hK=>?_) ?_
     ·have g71:=hk.val 6 71 rfl
      have g82:=hk.val 17 82 rfl
      have hK:=hK _ X hS (Reg.Is.aj rfl) (fun _ _ _ h=>h)
      clear hk
      go_simp
      exact hK
     refine Reg.ah.plain rfl (fun T X hS hk K hK=>?_) ?_
     ·have g83:=hk.val 18 83 rfl
      have hK:=hK _ X hS (Reg.Is.aj rfl) (fun _ _ _ h=>h)
      clear hk
      go_simp
      exact hK
     refine Reg.ah.guarded 19 84 true rfl (by kernel_rfl) (by kernel_rfl) rfl (fun T X hS hk K hK=>?_) ?_
     ·have g0:=hk.old 0 rfl
      have hK:=hK _ X hS (Reg.Is.aj rfl) (fun _ _ _ h=>h)
      clear hk
      go_simp
      exact hK
     refine Reg.ah.guarded 19 84 true rfl (by kernel_rfl) (by kernel_rfl) rfl (fun T X hS hk K hK=>?_) ?_
     ·have g3:=hk.old 3 rfl
      have hK:=hK _ X hS (Reg.Is.aj rfl) (fun _ _ _ h=>h)
      clear hk
      go_simp
      exact hK
     refine Reg.ah.guarded 19 84 true rfl (by kernel_rfl) (by kernel_rfl) rfl (fun T X hS hk K hK=>?_) ?_
     ·have g86:=hk.val 21 86 rfl
      have hK:=hK _ X hS (Reg.Is.aj rfl) (fun _ _ _ h=>h)
      clear hk
      go_simp
      first
       | exact hK
       | (rw [hw1];exact hK)
     refine Reg.ah.guarded 19 84 true rfl (by kernel_rfl) (by kernel_rfl) rfl (fun T X hS hk K hK=>?_) ?_
     ·have g85:=hk.val 20 85 rfl
      have g87:=hk.val 22 87 rfl
      have hK:=hK _ X hS (Reg.Is.aj rfl) (fun _ _ _ h=>h)
      clear hk
      go_simp
      exact hK
     refine Reg.ah.guarded 19 84 true rfl (by kernel_rfl) (by kernel_rfl) rfl (fun T X hS hk K hK=>?_) ?_
     ·have g88:=hk.val 23 88 rfl
      have q0:X.cell? ⟨b,o+(i+1),none⟩=some (.int .u8 60):=(hS.cell (p:=⟨b,o+(i+1),none⟩) hblt).trans c1
      have hK:=hK _ X hS (Reg.Is.aj rfl) (fun _ _ _ h=>h)
      clear hk hS
      go_simp
      exact hK
     refine Reg.ah.guarded 19 84 true rfl (by kernel_rfl) (by kernel_rfl) rfl (fun T X hS hk K hK=>?_) ?_
     ·have g89:=hk.val 24 89 rfl
      have hK:=hK _ X hS (Reg.Is.aj rfl) (fun _ _ _ h=>h)
      clear hk
      go_simp
      exact hK
     refine Reg.ah.guarded 19 84 true rfl (by kernel_rfl) (by kernel_rfl) rfl (fun T X hS hk K hK=>?_) ?_
     ·have g90:=hk.val 25 90 rfl
      have hK:=hK _ X hS (Reg.Is.aj rfl) (fun _ _ _ h=>h)
      clear hk
      go_simp
      exact hK
     refine Reg.ah.passed 26 91 true rfl (by kernel_rfl) (by kernel_rfl) rfl rfl ?_
     refine Reg.ah.passed 26 91 true rfl (by kernel_rfl) (by kernel_rfl) rfl rfl ?_
     refine Reg.ah.passed 26 91 true rfl (by kernel_rfl) (by kernel_rfl) rfl rfl ?_
     refine Reg.ah.passed 26 91 true rfl (by kernel_rfl) (by kernel_rfl) rfl rfl ?_
     refine Reg.ah.passed 26 91 true rfl (by kernel_rfl) (by kernel_rfl) rfl rfl ?_
     refine Reg.ah.passed 26 91 true rfl (by kernel_rfl) (by kernel_rfl) rfl rfl ?_
     refine Reg.ah.guarded 19 84 true rfl (by kernel_rfl) (by kernel_rfl) rfl (fun T X hS hk K hK=>?_) ?_
     ·have g91:=hk.val 26 91 rfl
      have g97:=hk.val 32 97 rfl
      have hK:=hK _ X hS (Reg.Is.aj rfl) (fun _ _ _ h=>h)
      clear hk
      go_simp
      exact hK
     refine Reg.ah.plain rfl (fun T X hS hk K hK=>?_) ?_
     ·have g84:=hk.val 19 84 rfl
      have g98:=hk.val 33 98 rfl
      have hK:=hK _ X hS (Reg.Is.aj rfl) (fun _ _ _ h=>h)
      clear hk
      go_simp
      exact hK
     exact Reg.ah.nil
    case iW=>
     intro u w1 hS hI
     have e0:u 0= .int .u8 61:=(hI 0 (by decide)).val rfl
     have e1:u 1= .bool true:=(hI 1 (by decide)).val rfl
     have e2:u 2= .bool true:=(hI 2 (by decide)).val rfl
     have e3:u 3= .int .i64 (i+1+1:Nat):=(hI 3 (by decide)).val rfl
     have e4:u 4= .bool true:=(hI 4 (by decide)).val rfl
     have e5:u 5= .bool true:=(hI 5 (by decide)).val rfl
     have e6:u 6= .bool true:=(hI 6 (by decide)).val rfl
     have e7:u 7= .slice (some ⟨b,o,none⟩) n cap:=(hI 7 (by decide)).val rfl
     have e8:u 8= .int .i64 (i+1+1:Nat):=(hI 8 (by decide)).val rfl
     have e9:u 9= .int .i64 (i+1:Nat):=(hI 9 (by decide)).val rfl
     have e10:u 10= .pointer (some ⟨b,o+(i+1),none⟩):=(hI 10 (by decide)).val rfl
     have e11:u 11= .int .u8 60:=(hI 11 (by decide)).val rfl
     have e12:u 12= .slice (some ⟨b,o,none⟩) n cap:=(hI 12 (by decide)).val rfl
     have e13:u 13= .int .i64 (i+1+1:Nat):=(hI 13 (by decide)).val rfl
     have e14:u 14= .int .i64 (i:Nat):=(hI 14 (by decide)).val rfl
     have e15:u 15= .pointer (some ⟨b,o+i,none⟩):=(hI 15 (by decide)).val rfl
     have e16:u 16= .int .u8 60:=(hI 16 (by decide)).val rfl
     have e17:u 17= .bool true:=(hI 17 (by decide)).val rfl
     have e18:u 18= .bool true:=(hI 18 (by decide)).val rfl
     have e19:u 19= .bool true:=(hI 19 (by decide)).val rfl
     have e20:u 20= .slice (some ⟨b,o,none⟩) n cap:=(hI 20 (by decide)).val rfl
     have e21:u 21= .int .i64 (i+1+1:Nat):=(hI 21 (by decide)).val rfl
     have e22:u 22= .int .i64 (i+1:Nat):=(hI 22 (by decide)).val rfl
     have e23:u 23= .pointer (some ⟨b,o+(i+1),none⟩):=(hI 23 (by decide)).val rfl
     have e24:u 24= .int .u8 60:=(hI 24 (by decide)).val rfl
     have e25:u 25= .bool true:=(hI 25 (by decide)).val rfl
     have e26:u 26= .bool true:=(hI 26 (by decide)).val rfl
     have e27:u 27=undef:=(hI 27 (by decide)).val rfl
     have e28:u 28=undef:=(hI 28 (by decide)).val rfl
     have e29:u 29=undef:=(hI 29 (by decide)).val rfl
     have e30:u 30=undef:=(hI 30 (by decide)).val rfl
     have e31:u 31=undef:=(hI 31 (by decide)).val rfl
     have e32:u 32=undef:=(hI 32 (by decide)).val rfl
     have e33:u 33= .bool true:=(hI 33 (by decide)).val rfl
     have e34:u 34= .bool true:=(hI 34 (by decide)).val rfl
     clear hI
     simp only [Reg.aK,Act.put,List.setIfInBounds_toArray,List.set_cons_succ,List.set_cons_zero,Nat.zero_add,Nat.reduceAdd,e0,e1,e2,e3,e4,e5,e6,e7,e8,e9,e10,e11,e12,e13,e14,e15,e16,e17,e18,e19,e20,e21,e22,e23,e24,e25,e26,e27,e28,e29,e30,e31,e32,e33,e34]
     clear e0 e1 e2 e3 e4 e5 e6 e7 e8 e9 e10 e11 e12 e13 e14 e15 e16 e17 e18 e19 e20 e21 e22 e23 e24 e25 e26 e27 e28 e29 e30 e31 e32 e33 e34
     go_wp2_with fail
     go_meet
     exact ⟨rfl,⟨true,rfl,fun h=>(by cases h)⟩,HB.out.trans (hS.mono HB.out.size)⟩
   have e60:(p==60)=false:=beq_eq_false_iff_ne.2 h60
   by_cases h62:p=62
   ·subst h62
    refine Reg.bI (fun X=>Below wr.heap.size wr X) (fun j=>([some (.int .u8 61),some (.bool true),some (.bool true),some (.int .i64 (i+1+1:Nat)),some (.bool true),some (.bool true),some (.bool true),some (.slice (some ⟨b,o,none⟩) n cap),some (.int .i64 (i+1+1:Nat)),some (.int .i64 (i+1:Nat)),some (.pointer (some ⟨b,o+(i+1),none⟩)),some (.int .u8 62),some (.slice (some ⟨b,o,none⟩) n cap),some (.int .i64 (i+1+1:Nat)),some (.int .i64 (i:Nat)),some (.pointer (some ⟨b,o+i,none⟩)),some (.int .u8 62),some (.bool true),some (.bool true),some (.bool true),some (.slice (some ⟨b,o,none⟩) n cap),some (.int .i64 (i+1+1:Nat)),some (.int .i64 (i+1:Nat)),some (.pointer (some ⟨b,o+(i+1),none⟩)),some (.int .u8 62),some (.bool false),some (.bool false),some (.slice (some ⟨b,o,none⟩) n cap),some (.int .i64 (i+1+1:Nat)),some (.int .i64 (i+1:Nat)),some (.pointer (some ⟨b,o+(i+1),none⟩)),some (.int .u8 62),some (.bool true),some (.bool true),some (.bool true)]:List (Option Value)).getD j none) (fun _ _ _=>True) (by kernel_rfl) (by kernel_rfl) (by kernel_rfl) (by kernel_rfl) ?iY ?rsE ?iW
    case iY=>exact (Below.refl _ _).drew
    case rsE=>
     refine Reg.ah.plain rfl (fun T X hS hk K hK=>?_) ?_
     ·have g4:=hk.old 4 rfl
      have hK:=hK _ X hS (Reg.Is.aj rfl) (fun _ _ _ h=>h)
      clear hk
      go_simp
      exact hK
     refine Reg.ah.plain rfl (fun T X hS hk K hK=>?_) ?_
     ·have ZV:=hk.val 0 65 rfl
      have hK:=hK _ X hS (Reg.Is.aj rfl) (fun _ _ _ h=>h)
      clear hk
      go_simp
      exact hK
     refine Reg.ah.plain rfl (fun T X hS hk K hK=>?_) ?_
     ·have g66:=hk.val 1 66 rfl
      have hK:=hK _ X hS (Reg.Is.aj rfl) (fun _ _ _ h=>h)
      clear hk
      go_simp
      exact hK
     refine Reg.ah.guarded 2 67 true rfl (by kernel_rfl) (by kernel_rfl) rfl (fun T X hS hk K hK=>?_) ?_
     ·have g3:=hk.old 3 rfl
      have hK:=hK _ X hS (Reg.Is.aj rfl) (fun _ _ _ h=>h)
      clear hk
      go_simp
      exact hK
     refine Reg.ah.guarded 2 67 true rfl (by kernel_rfl) (by kernel_rfl) rfl (fun T X hS hk K hK=>?_) ?_
     ·have g68:=hk.val 3 68 rfl
      have hK:=hK _ X hS (Reg.Is.aj rfl) (fun _ _ _ h=>h)
      clear hk
      go_simp
      first
       | exact hK
       | (rw [hk2];exact hK)
     refine Reg.ah.plain rfl (fun T X hS hk K hK=>?_) ?_
     ·have g67:=hk.val 2 67 rfl
      have g69:=hk.val 4 69 rfl
      have hK:=hK _ X hS (Reg.Is.aj rfl) (fun _ _ _ h=>h)
      clear hk
      go_simp
      exact hK
     refine Reg.ah.plain rfl (fun T X hS hk K hK=>?_) ?_
     ·have g70:=hk.val 5 70 rfl
      have hK:=hK _ X hS (Reg.Is.aj rfl) (fun _ _ _ h=>h)
      clear hk
      go_simp
      exact hK
     refine Reg.ah.guarded 6 71 true rfl (by kernel_rfl) (by kernel_rfl) rfl (fun T X hS hk K hK=>?_) ?_
     ·have g0:=hk.old 0 rfl
      have hK:=hK _ X hS (Reg.Is.aj rfl) (fun _ _ _ h=>h)
      clear hk
      go_simp
      exact hK
     refine Reg.ah.guarded 6 71 true rfl (by kernel_rfl) (by kernel_rfl) rfl (fun T X hS hk K hK=>?_) ?_
     ·have g3:=hk.old 3 rfl
      have hK:=hK _ X hS (Reg.Is.aj rfl) (fun _ _ _ h=>h)
      clear hk
      go_simp
      exact hK
     refine Reg.ah.guarded 6 71 true rfl (by kernel_rfl) (by kernel_rfl) rfl (fun T X hS hk K hK=>?_) ?_
     ·have g73:=hk.val 8 73 rfl
      have hK:=hK _ X hS (Reg.Is.aj rfl) (fun _ _ _ h=>h)
      clear hk
      go_simp
      first
       | exact hK
       | (rw [hw1];exact hK)
     refine Reg.ah.guarded 6 71 true rfl (by kernel_rfl) (by kernel_rfl) rfl (fun T X hS hk K hK=>?_) ?_
     ·have g72:=hk.val 7 72 rfl
      have g74:=hk.val 9 74 rfl
      have hK:=hK _ X hS (Reg.Is.aj rfl) (fun _ _ _ h=>h)
      clear hk
      go_simp
      exact hK
     refine Reg.ah.guarded 6 71 true rfl (by kernel_rfl) (by kernel_rfl) rfl (fun T X hS hk K hK=>?_) ?_
     ·have g75:=hk.val 10 75 rfl
      have q0:X.cell? ⟨b,o+(i+1),none⟩=some (.int .u8 62):=(hS.cell (p:=⟨b,o+(i+1),none⟩) hblt).trans c1
      have hK:=hK _ X hS (Reg.Is.aj rfl) (fun _ _ _ h=>h)
      clear hk hS
      go_simp
      exact hK
     refine Reg.ah.guarded 6 71 true rfl (by kernel_rfl) (by kernel_rfl) rfl (fun T X hS hk K hK=>?_) ?_
     ·have g0:=hk.old 0 rfl
      have hK:=hK _ X hS (Reg.Is.aj rfl) (fun _ _ _ h=>h)
      clear hk
      go_simp
      exact hK
     refine Reg.ah.guarded 6 71 true rfl (by kernel_rfl) (by kernel_rfl) rfl (fun T X hS hk K hK=>?_) ?_
     ·have g3:=hk.old 3 rfl
      have hK:=hK _ X hS (Reg.Is.aj rfl) (fun _ _ _ h=>h)
      clear hk
      go_simp
      exact hK
     refine Reg.ah.guarded 6 71 true rfl (by kernel_rfl) (by kernel_rfl) rfl (fun T X hS hk K hK=>?_) ?_
     ·have g78:=hk.val 13 78 rfl
      have hK:=hK _ X hS (Reg.Is.aj rfl) (fun _ _ _ h=>h)
      clear hk
      go_simp
      first
       | exact hK
       | (rw [hw2];exact hK)
     refine Reg.ah.guarded 6 71 true rfl (by kernel_rfl) (by kernel_rfl) rfl (fun T X hS hk K hK=>?_) ?_
     ·have g77:=hk.val 12 77 rfl
      have g79:=hk.val 14 79 rfl
      have hK:=hK _ X hS (Reg.Is.aj rfl) (fun _ _ _ h=>h)
      clear hk
      go_simp
      exact hK
     refine Reg.ah.guarded 6 71 true rfl (by kernel_rfl) (by kernel_rfl) rfl (fun T X hS hk K hK=>?_) ?_
     ·have g80:=hk.val 15 80 rfl
      have q0:X.cell? ⟨b,o+i,none⟩=some (.int .u8 62):=(hS.cell (p:=⟨b,o+i,none⟩) hblt).trans c2
      have hK:=hK _ X hS (Reg.Is.aj rfl) (fun _ _ _ h=>h)
      clear hk hS
      go_simp
      exact hK
     refine Reg.ah.guarded 6 71 true rfl (by kernel_rfl) (by kernel_rfl) rfl (fun T X hS hk K hK=>?_) ?_
     ·have g76:=hk.val 11 76 rfl
      have g81:=hk.val 16 81 rfl
      have hK:=hK _ X hS (Reg.Is.aj rfl) (fun _ _ _ h=>h)
      clear hk
      go_simp
      exact hK
     refine Reg.ah.plain rfl (fun T X hS hk K hK=>?_) ?_
     ·have g71:=hk.val 6 71 rfl
      have g82:=hk.val 17 82 rfl
      have hK:=hK _ X hS (Reg.Is.aj rfl) (fun _ _ _ h=>h)
      clear hk
      go_simp
      exact hK
     refine Reg.ah.plain rfl (fun T X hS hk K hK=>?_) ?_
     ·have g83:=hk.val 18 83 rfl
      have hK:=hK _ X hS (Reg.Is.aj rfl) (fun _ _ _ h=>h)
      clear hk
      go_simp
      exact hK
     refine Reg.ah.guarded 19 84 true rfl (by kernel_rfl) (by kernel_rfl) rfl (fun T X hS hk K hK=>?_) ?_
     ·have g0:=hk.old 0 rfl
      have hK:=hK _ X hS (Reg.Is.aj rfl) (fun _ _ _ h=>h)
      clear hk
      go_simp
      exact hK
     refine Reg.ah.guarded 19 84 true rfl (by kernel_rfl) (by kernel_rfl) rfl (fun T X hS hk K hK=>?_) ?_
     ·have g3:=hk.old 3 rfl
      have hK:=hK _ X hS (Reg.Is.aj rfl) (fun _ _ _ h=>h)
      clear hk
      go_simp
      exact hK
     refine Reg.ah.guarded 19 84 true rfl (by kernel_rfl) (by kernel_rfl) rfl (fun T X hS hk K hK=>?_) ?_
     ·have g86:=hk.val 21 86 rfl
      have hK:=hK _ X hS (Reg.Is.aj rfl) (fun _ _ _ h=>h)
      clear hk
      go_simp
      first
       | exact hK
       | (rw [hw1];exact hK)
     refine Reg.ah.guarded 19 84 true rfl (by kernel_rfl) (by kernel_rfl) rfl (fun T X hS hk K hK=>?_) ?_
     ·have g85:=hk.val 20 85 rfl
      have g87:=hk.val 22 87 rfl
      have hK:=hK _ X hS (Reg.Is.aj rfl) (fun _ _ _ h=>h)
      clear hk
      go_simp
      exact hK
     refine Reg.ah.guarded 19 84 true rfl (by kernel_rfl) (by kernel_rfl) rfl (fun T X hS hk K hK=>?_) ?_
     ·have g88:=hk.val 23 88 rfl
      have q0:X.cell? ⟨b,o+(i+1),none⟩=some (.int .u8 62):=(hS.cell (p:=⟨b,o+(i+1),none⟩) hblt).trans c1
      have hK:=hK _ X hS (Reg.Is.aj rfl) (fun _ _ _ h=>h)
      clear hk hS
      go_simp
      exact hK
     refine Reg.ah.guarded 19 84 true rfl (by kernel_rfl) (by kernel_rfl) rfl (fun T X hS hk K hK=>?_) ?_
     ·have g89:=hk.val 24 89 rfl
      have hK:=hK _ X hS (Reg.Is.aj rfl) (fun _ _ _ h=>h)
      clear hk
      go_simp
      exact hK
     refine Reg.ah.guarded 19 84 true rfl (by kernel_rfl) (by kernel_rfl) rfl (fun T X hS hk K hK=>?_) ?_
     ·have g90:=hk.val 25 90 rfl
      have hK:=hK _ X hS (Reg.Is.aj rfl) (fun _ _ _ h=>h)
      clear hk
      go_simp
      exact hK
     refine Reg.ah.guarded 26 91 false rfl (by kernel_rfl) (by kernel_rfl) rfl (fun T X hS hk K hK=>?_) ?_
     ·have g0:=hk.old 0 rfl
      have hK:=hK _ X hS (Reg.Is.aj rfl) (fun _ _ _ h=>h)
      clear hk
      go_simp
      exact hK
     refine Reg.ah.guarded 26 91 false rfl (by kernel_rfl) (by kernel_rfl) rfl (fun T X hS hk K hK=>?_) ?_
     ·have g3:=hk.old 3 rfl
      have hK:=hK _ X hS (Reg.Is.aj rfl) (fun _ _ _ h=>h)
      clear hk
      go_simp
      exact hK
     refine Reg.ah.guarded 26 91 false rfl (by kernel_rfl) (by kernel_rfl) rfl (fun T X hS hk K hK=>?_) ?_
     ·have g93:=hk.val 28 93 rfl
      have hK:=hK _ X hS (Reg.Is.aj rfl) (fun _ _ _ h=>h)
      clear hk
      go_simp
      first
       | exact hK
       | (rw [hw1];exact hK)
     refine Reg.ah.guarded 26 91 false rfl (by kernel_rfl) (by kernel_rfl) rfl (fun T X hS hk K hK=>?_) ?_
     ·have g92:=hk.val 27 92 rfl
      have g94:=hk.val 29 94 rfl
      have hK:=hK _ X hS (Reg.Is.aj rfl) (fun _ _ _ h=>h)
      clear hk
      go_simp
      exact hK
     refine Reg.ah.guarded 26 91 false rfl (by kernel_rfl) (by kernel_rfl) rfl (fun T X hS hk K hK=>?_) ?_
     ·have g95:=hk.val 30 95 rfl
      have q0:X.cell? ⟨b,o+(i+1),none⟩=some (.int .u8 62):=(hS.cell (p:=⟨b,o+(i+1),none⟩) hblt).trans c1
      have hK:=hK _ X hS (Reg.Is.aj rfl) (fun _ _ _ h=>h)
      clear hk hS
      go_simp
      exact hK
     refine Reg.ah.guarded 26 91 false rfl (by kernel_rfl) (by kernel_rfl) rfl (fun T X hS hk K hK=>?_) ?_
     ·have g96:=hk.val 31 96 rfl
      have hK:=hK _ X hS (Reg.Is.aj rfl) (fun _ _ _ h=>h)
      clear hk
      go_simp
      exact hK
     refine Reg.ah.guarded 19 84 true rfl (by kernel_rfl) (by kernel_rfl) rfl (fun T X hS hk K hK=>?_) ?_
     ·have g91:=hk.val 26 91 rfl
      have g97:=hk.val 32 97 rfl
      have hK:=hK _ X hS (Reg.Is.aj rfl) (fun _ _ _ h=>h)
      clear hk
      go_simp
      exact hK
     refine Reg.ah.plain rfl (fun T X hS hk K hK=>?_) ?_
     ·have g84:=hk.val 19 84 rfl
      have g98:=hk.val 33 98 rfl
      have hK:=hK _ X hS (Reg.Is.aj rfl) (fun _ _ _ h=>h)
      clear hk
      go_simp
      exact hK
     exact Reg.ah.nil
    case iW=>
     intro u w1 hS hI
     have e0:u 0= .int .u8 61:=(hI 0 (by decide)).val rfl
     have e1:u 1= .bool true:=(hI 1 (by decide)).val rfl
     have e2:u 2= .bool true:=(hI 2 (by decide)).val rfl
     have e3:u 3= .int .i64 (i+1+1:Nat):=(hI 3 (by decide)).val rfl
     have e4:u 4= .bool true:=(hI 4 (by decide)).val rfl
     have e5:u 5= .bool true:=(hI 5 (by decide)).val rfl
     have e6:u 6= .bool true:=(hI 6 (by decide)).val rfl
     have e7:u 7= .slice (some ⟨b,o,none⟩) n cap:=(hI 7 (by decide)).val rfl
     have e8:u 8= .int .i64 (i+1+1:Nat):=(hI 8 (by decide)).val rfl
     have e9:u 9= .int .i64 (i+1:Nat):=(hI 9 (by decide)).val rfl
     have e10:u 10= .pointer (some ⟨b,o+(i+1),none⟩):=(hI 10 (by decide)).val rfl
     have e11:u 11= .int .u8 62:=(hI 11 (by decide)).val rfl
     have e12:u 12= .slice (some ⟨b,o,none⟩) n cap:=(hI 12 (by decide)).val rfl
     have e13:u 13= .int .i64 (i+1+1:Nat):=(hI 13 (by decide)).val rfl
     have e14:u 14= .int .i64 (i:Nat):=(hI 14 (by decide)).val rfl
     have e15:u 15= .pointer (some ⟨b,o+i,none⟩):=(hI 15 (by decide)).val rfl
     have e16:u 16= .int .u8 62:=(hI 16 (by decide)).val rfl
     have e17:u 17= .bool true:=(hI 17 (by decide)).val rfl
     have e18:u 18= .bool true:=(hI 18 (by decide)).val rfl
     have e19:u 19= .bool true:=(hI 19 (by decide)).val rfl
     have e20:u 20= .slice (some ⟨b,o,none⟩) n cap:=(hI 20 (by decide)).val rfl
     have e21:u 21= .int .i64 (i+1+1:Nat):=(hI 21 (by decide)).val rfl
     have e22:u 22= .int .i64 (i+1:Nat):=(hI 22 (by decide)).val rfl
     have e23:u 23= .pointer (some ⟨b,o+(i+1),none⟩):=(hI 23 (by decide)).val rfl
     have e24:u 24= .int .u8 62:=(hI 24 (by decide)).val rfl
     have e25:u 25= .bool false:=(hI 25 (by decide)).val rfl
     have e26:u 26= .bool false:=(hI 26 (by decide)).val rfl
     have e27:u 27= .slice (some ⟨b,o,none⟩) n cap:=(hI 27 (by decide)).val rfl
     have e28:u 28= .int .i64 (i+1+1:Nat):=(hI 28 (by decide)).val rfl
     have e29:u 29= .int .i64 (i+1:Nat):=(hI 29 (by decide)).val rfl
     have e30:u 30= .pointer (some ⟨b,o+(i+1),none⟩):=(hI 30 (by decide)).val rfl
     have e31:u 31= .int .u8 62:=(hI 31 (by decide)).val rfl
     have e32:u 32= .bool true:=(hI 32 (by decide)).val rfl
     have e33:u 33= .bool true:=(hI 33 (by decide)).val rfl
     have e34:u 34= .bool true:=(hI 34 (by decide)).val rfl
     clear hI
     simp only [Reg.aK,Act.put,List.setIfInBounds_toArray,List.set_cons_succ,List.set_cons_zero,Nat.zero_add,Nat.reduceAdd,e0,e1,e2,e3,e4,e5,e6,e7,e8,e9,e10,e11,e12,e13,e14,e15,e16,e17,e18,e19,e20,e21,e22,e23,e24,e25,e26,e27,e28,e29,e30,e31,e32,e33,e34]
     clear e0 e1 e2 e3 e4 e5 e6 e7 e8 e9 e10 e11 e12 e13 e14 e15 e16 e17 e18 e19 e20 e21 e22 e23 e24 e25 e26 e27 e28 e29 e30 e31 e32 e33 e34
     go_wp2_with fail
     go_meet
     exact ⟨rfl,⟨true,rfl,fun h=>(by cases h)⟩,HB.out.trans (hS.mono HB.out.size)⟩
   have e62:(p==62)=false:=beq_eq_false_iff_ne.2 h62
   refine Reg.bI (fun X=>Below wr.heap.size wr X) (fun j=>([some (.int .u8 61),some (.bool true),some (.bool true),some (.int .i64 (i+1+1:Nat)),some (.bool true),some (.bool true),some (.bool true),some (.slice (some ⟨b,o,none⟩) n cap),some (.int .i64 (i+1+1:Nat)),some (.int .i64 (i+1:Nat)),some (.pointer (some ⟨b,o+(i+1),none⟩)),some (.int .u8 p),some (.slice (some ⟨b,o,none⟩) n cap),some (.int .i64 (i+1+1:Nat)),some (.int .i64 (i:Nat)),some (.pointer (some ⟨b,o+i,none⟩)),some (.int .u8 p),some (.bool true),some (.bool true),some (.bool true),some (.slice (some ⟨b,o,none⟩) n cap),some (.int .i64 (i+1+1:Nat)),some (.int .i64 (i+1:Nat)),some (.pointer (some ⟨b,o+(i+1),none⟩)),some (.int .u8 p),some (.bool false),some (.bool false),some (.slice (some ⟨b,o,none⟩) n cap),some (.int .i64 (i+1+1:Nat)),some (.int .i64 (i+1:Nat)),some (.pointer (some ⟨b,o+(i+1),none⟩)),some (.int .u8 p),some (.bool false),some (.bool false),some (.bool false)]:List (Option Value)).getD j none) (fun _ _ _=>True) (by kernel_rfl) (by kernel_rfl) (by kernel_rfl) (by kernel_rfl) ?iY ?rsE ?iW
   case iY=>exact (Below.refl _ _).drew
   case rsE=>
    refine Reg.ah.plain rfl (fun T X hS hk K hK=>?_) ?_
    ·have g4:=hk.old 4 rfl
     have hK:=hK _ X hS (Reg.Is.aj rfl) (fun _ _ _ h=>h)
     clear hk
     go_simp
     exact hK
    refine Reg.ah.plain rfl (fun T X hS hk K hK=>?_) ?_
    ·have ZV:=hk.val 0 65 rfl
     have hK:=hK _ X hS (Reg.Is.aj rfl) (fun _ _ _ h=>h)
     clear hk
     go_simp
     exact hK
    refine Reg.ah.plain rfl (fun T X hS hk K hK=>?_) ?_
    ·have g66:=hk.val 1 66 rfl
     have hK:=hK _ X hS (Reg.Is.aj rfl) (fun _ _ _ h=>h)
     clear hk
     go_simp
     exact hK
    refine Reg.ah.guarded 2 67 true rfl (by kernel_rfl) (by kernel_rfl) rfl (fun T X hS hk K hK=>?_) ?_
    ·have g3:=hk.old 3 rfl
     have hK:=hK _ X hS (Reg.Is.aj rfl) (fun _ _ _ h=>h)
     clear hk
     go_simp
     exact hK
    refine Reg.ah.guarded 2 67 true rfl (by kernel_rfl) (by kernel_rfl) rfl (fun T X hS hk K hK=>?_) ?_
    ·have g68:=hk.val 3 68 rfl
     have hK:=hK _ X hS (Reg.Is.aj rfl) (fun _ _ _ h=>h)
     clear hk
     go_simp
     first
      | exact hK
      | (rw [hk2];exact hK)
    refine Reg.ah.plain rfl (fun T X hS hk K hK=>?_) ?_
    ·have g67:=hk.val 2 67 rfl
     have g69:=hk.val 4 69 rfl
     have hK:=hK _ X hS (Reg.Is.aj rfl) (fun _ _ _ h=>h)
     clear hk
     go_simp
     exact hK
    refine Reg.ah.plain rfl (fun T X hS hk K hK=>?_) ?_
    ·have g70:=hk.val 5 70 rfl
     have hK:=hK _ X hS (Reg.Is.aj rfl) (fun _ _ _ h=>h)
     clear hk
     go_simp
     exact hK
    refine Reg.ah.guarded 6 71 true rfl (by kernel_rfl) (by kernel_rfl) rfl (fun T X hS hk K hK=>?_) ?_
    ·have g0:=hk.old 0 rfl
     have hK:=hK _ X hS (Reg.Is.aj rfl) (fun _ _ _ h=>h)
     clear hk
     go_simp
     exact hK
    refine Reg.ah.guarded 6 71 true rfl (by kernel_rfl) (by kernel_rfl) rfl (fun T X hS hk K hK=>?_) ?_
    ·have g3:=hk.old 3 rfl
     have hK:=hK _ X hS (Reg.Is.aj rfl) (fun _ _ _ h=>h)
     clear hk
     go_simp
     exact hK
    refine Reg.ah.guarded 6 71 true rfl (by kernel_rfl) (by kernel_rfl) rfl (fun T X hS hk K hK=>?_) ?_
    ·have g73:=hk.val 8 73 rfl
     have hK:=hK _ X hS (Reg.Is.aj rfl) (fun _ _ _ h=>h)
     clear hk
     go_simp
     first
      | exact hK
      | (rw [hw1];exact hK)
    refine Reg.ah.guarded 6 71 true rfl (by kernel_rfl) (by kernel_rfl) rfl (fun T X hS hk K hK=>?_) ?_
    ·have g72:=hk.val 7 72 rfl
     have g74:=hk.val 9 74 rfl
     have hK:=hK _ X hS (Reg.Is.aj rfl) (fun _ _ _ h=>h)
     clear hk
     go_simp
     exact hK
    refine Reg.ah.guarded 6 71 true rfl (by kernel_rfl) (by kernel_rfl) rfl (fun T X hS hk K hK=>?_) ?_
    ·have g75:=hk.val 10 75 rfl
     have q0:X.cell? ⟨b,o+(i+1),none⟩=some (.int .u8 p):=(hS.cell (p:=⟨b,o+(i+1),none⟩) hblt).trans c1
     have hK:=hK _ X hS (Reg.Is.aj rfl) (fun _ _ _ h=>h)
     clear hk hS
     go_simp
     exact hK
    refine Reg.ah.guarded 6 71 true rfl (by kernel_rfl) (by kernel_rfl) rfl (fun T X hS hk K hK=>?_) ?_
    ·have g0:=hk.old 0 rfl
     have hK:=hK _ X hS (Reg.Is.aj rfl) (fun _ _ _ h=>h)
     clear hk
     go_simp
     exact hK
    refine Reg.ah.guarded 6 71 true rfl (by kernel_rfl) (by kernel_rfl) rfl (fun T X hS hk K hK=>?_) ?_
    ·have g3:=hk.old 3 rfl
     have hK:=hK _ X hS (Reg.Is.aj rfl) (fun _ _ _ h=>h)
     clear hk
     go_simp
     exact hK
    refine Reg.ah.guarded 6 71 true rfl (by kernel_rfl) (by kernel_rfl) rfl (fun T X hS hk K hK=>?_) ?_
    ·have g78:=hk.val 13 78 rfl
     have hK:=hK _ X hS (Reg.Is.aj rfl) (fun _ _ _ h=>h)
     clear hk
     go_simp
     first
      | exact hK
      | (rw [hw2];exact hK)
    refine Reg.ah.guarded 6 71 true rfl (by kernel_rfl) (by kernel_rfl) rfl (fun T X hS hk K hK=>?_) ?_
    ·have g77:=hk.val 12 77 rfl
     have g79:=hk.val 14 79 rfl
     have hK:=hK _ X hS (Reg.Is.aj rfl) (fun _ _ _ h=>h)
     clear hk
     go_simp
     exact hK
    refine Reg.ah.guarded 6 71 true rfl (by kernel_rfl) (by kernel_rfl) rfl (fun T X hS hk K hK=>?_) ?_
    ·have g80:=hk.val 15 80 rfl
     have q0:X.cell? ⟨b,o+i,none⟩=some (.int .u8 p):=(hS.cell (p:=⟨b,o+i,none⟩) hblt).trans c2
     have hK:=hK _ X hS (Reg.Is.aj rfl) (fun _ _ _ h=>h)
     clear hk hS
     go_simp
     exact hK
    refine Reg.ah.guarded 6 71 true rfl (by kernel_rfl) (by kernel_rfl) rfl (fun T X hS hk K hK=>?_) ?_
    ·have g76:=hk.val 11 76 rfl
     have g81:=hk.val 16 81 rfl
     have hK:=hK _ X hS (Reg.Is.aj rfl) (fun _ _ _ h=>h)
     clear hk
     go_simp
     exact hK
    refine Reg.ah.plain rfl (fun T X hS hk K hK=>?_) ?_
    ·have g71:=hk.val 6 71 rfl
     have g82:=hk.val 17 82 rfl
     have hK:=hK _ X hS (Reg.Is.aj rfl) (fun _ _ _ h=>h)
     clear hk
     go_simp
     exact hK
    refine Reg.ah.plain rfl (fun T X hS hk K hK=>?_) ?_
    ·have g83:=hk.val 18 83 rfl
     have hK:=hK _ X hS (Reg.Is.aj rfl) (fun _ _ _ h=>h)
     clear hk
     go_simp
     exact hK
    refine Reg.ah.guarded 19 84 true rfl (by kernel_rfl) (by kernel_rfl) rfl (fun T X hS hk K hK=>?_) ?_
    ·have g0:=hk.old 0 rfl
     have hK:=hK _ X hS (Reg.Is.aj rfl) (fun _ _ _ h=>h)
     clear hk
     go_simp
     exact hK
    refine Reg.ah.guarded 19 84 true rfl (by kernel_rfl) (by kernel_rfl) rfl (fun T X hS hk K hK=>?_) ?_
    ·have g3:=hk.old 3 rfl
     have hK:=hK _ X hS (Reg.Is.aj rfl) (fun _ _ _ h=>h)
     clear hk
     go_simp
     exact hK
    refine Reg.ah.guarded 19 84 true rfl (by kernel_rfl) (by kernel_rfl) rfl (fun T X hS hk K hK=>?_) ?_
    ·have g86:=hk.val 21 86 rfl
     have hK:=hK _ X hS (Reg.Is.aj rfl) (fun _ _ _ h=>h)
     clear hk
     go_simp
     first
      | exact hK
      | (rw [hw1];exact hK)
    refine Reg.ah.guarded 19 84 true rfl (by kernel_rfl) (by kernel_rfl) rfl (fun T X hS hk K hK=>?_) ?_
    ·have g85:=hk.val 20 85 rfl
     have g87:=hk.val 22 87 rfl
     have hK:=hK _ X hS (Reg.Is.aj rfl) (fun _ _ _ h=>h)
     clear hk
     go_simp
     exact hK
    refine Reg.ah.guarded 19 84 true rfl (by kernel_rfl) (by kernel_rfl) rfl (fun T X hS hk K hK=>?_) ?_
    ·have g88:=hk.val 23 88 rfl
     have q0:X.cell? ⟨b,o+(i+1),none⟩=some (.int .u8 p):=(hS.cell (p:=⟨b,o+(i+1),none⟩) hblt).trans c1
     have hK:=hK _ X hS (Reg.Is.aj rfl) (fun _ _ _ h=>h)
     clear hk hS
     go_simp
     exact hK
    refine Reg.ah.guarded 19 84 true rfl (by kernel_rfl) (by kernel_rfl) rfl (fun T X hS hk K hK=>?_) ?_
    ·have g89:=hk.val 24 89 rfl
     have hK:=hK _ X hS (Reg.Is.aj rfl) (fun _ _ _ h=>h)
     clear hk
     go_simp
     first
      | exact hK
      | (rw [e60];exact hK)
    refine Reg.ah.guarded 19 84 true rfl (by kernel_rfl) (by kernel_rfl) rfl (fun T X hS hk K hK=>?_) ?_
    ·have g90:=hk.val 25 90 rfl
     have hK:=hK _ X hS (Reg.Is.aj rfl) (fun _ _ _ h=>h)
     clear hk
     go_simp
     exact hK
    refine Reg.ah.guarded 26 91 false rfl (by kernel_rfl) (by kernel_rfl) rfl (fun T X hS hk K hK=>?_) ?_
    ·have g0:=hk.old 0 rfl
     have hK:=hK _ X hS (Reg.Is.aj rfl) (fun _ _ _ h=>h)
     clear hk
     go_simp
     exact hK
    refine Reg.ah.guarded 26 91 false rfl (by kernel_rfl) (by kernel_rfl) rfl (fun T X hS hk K hK=>?_) ?_
    ·have g3:=hk.old 3 rfl
     have hK:=hK _ X hS (Reg.Is.aj rfl) (fun _ _ _ h=>h)
     clear hk
     go_simp
     exact hK
    refine Reg.ah.guarded 26 91 false rfl (by kernel_rfl) (by kernel_rfl) rfl (fun T X hS hk K hK=>?_) ?_
    ·have g93:=hk.val 28 93 rfl
     have hK:=hK _ X hS (Reg.Is.aj rfl) (fun _ _ _ h=>h)
     clear hk
     go_simp
     first
      | exact hK
      | (rw [hw1];exact hK)
    refine Reg.ah.guarded 26 91 false rfl (by kernel_rfl) (by kernel_rfl) rfl (fun T X hS hk K hK=>?_) ?_
    ·have g92:=hk.val 27 92 rfl
     have g94:=hk.val 29 94 rfl
     have hK:=hK _ X hS (Reg.Is.aj rfl) (fun _ _ _ h=>h)
     clear hk
     go_simp
     exact hK
    refine Reg.ah.guarded 26 91 false rfl (by kernel_rfl) (by kernel_rfl) rfl (fun T X hS hk K hK=>?_) ?_
    ·have g95:=hk.val 30 95 rfl
     have q0:X.cell? ⟨b,o+(i+1),none⟩=some (.int .u8 p):=(hS.cell (p:=⟨b,o+(i+1),none⟩) hblt).trans c1
     have hK:=hK _ X hS (Reg.Is.aj rfl) (fun _ _ _ h=>h)
     clear hk hS
     go_simp
     exact hK
    refine Reg.ah.guarded 26 91 false rfl (by kernel_rfl) (by kernel_rfl) rfl (fun T X hS hk K hK=>?_) ?_
    ·have g96:=hk.val 31 96 rfl
     have hK:=hK _ X hS (Reg.Is.aj rfl) (fun _ _ _ h=>h)
     clear hk
     go_simp
     first
      | exact hK
      | (rw [e62];exact hK)
    refine Reg.ah.guarded 19 84 true rfl (by kernel_rfl) (by kernel_rfl) rfl (fun T X hS hk K hK=>?_) ?_
    ·have g91:=hk.val 26 91 rfl
     have g97:=hk.val 32 97 rfl
     have hK:=hK _ X hS (Reg.Is.aj rfl) (fun _ _ _ h=>h)
     clear hk
     go_simp
     exact hK
    refine Reg.ah.plain rfl (fun T X hS hk K hK=>?_) ?_
    ·have g84:=hk.val 19 84 rfl
     have g98:=hk.val 33 98 rfl
     have hK:=hK _ X hS (Reg.Is.aj rfl) (fun _ _ _ h=>h)
     clear hk
     go_simp
     exact hK
    exact Reg.ah.nil
   case iW=>
    intro u w1 hS hI
    have e0:u 0= .int .u8 61:=(hI 0 (by decide)).val rfl
    have e1:u 1= .bool true:=(hI 1 (by decide)).val rfl
    have e2:u 2= .bool true:=(hI 2 (by decide)).val rfl
    have e3:u 3= .int .i64 (i+1+1:Nat):=(hI 3 (by decide)).val rfl
    have e4:u 4= .bool true:=(hI 4 (by decide)).val rfl
    have e5:u 5= .bool true:=(hI 5 (by decide)).val rfl
    have e6:u 6= .bool true:=(hI 6 (by decide)).val rfl
    have e7:u 7= .slice (some ⟨b,o,none⟩) n cap:=(hI 7 (by decide)).val rfl
    have e8:u 8= .int .i64 (i+1+1:Nat):=(hI 8 (by decide)).val rfl
    have e9:u 9= .int .i64 (i+1:Nat):=(hI 9 (by decide)).val rfl
    have e10:u 10= .pointer (some ⟨b,o+(i+1),none⟩):=(hI 10 (by decide)).val rfl
    have e11:u 11= .int .u8 p:=(hI 11 (by decide)).val rfl
    have e12:u 12= .slice (some ⟨b,o,none⟩) n cap:=(hI 12 (by decide)).val rfl
    have e13:u 13= .int .i64 (i+1+1:Nat):=(hI 13 (by decide)).val rfl
    have e14:u 14= .int .i64 (i:Nat):=(hI 14 (by decide)).val rfl
    have e15:u 15= .pointer (some ⟨b,o+i,none⟩):=(hI 15 (by decide)).val rfl
    have e16:u 16= .int .u8 p:=(hI 16 (by decide)).val rfl
    have e17:u 17= .bool true:=(hI 17 (by decide)).val rfl
    have e18:u 18= .bool true:=(hI 18 (by decide)).val rfl
    have e19:u 19= .bool true:=(hI 19 (by decide)).val rfl
    have e20:u 20= .slice (some ⟨b,o,none⟩) n cap:=(hI 20 (by decide)).val rfl
    have e21:u 21= .int .i64 (i+1+1:Nat):=(hI 21 (by decide)).val rfl
    have e22:u 22= .int .i64 (i+1:Nat):=(hI 22 (by decide)).val rfl
    have e23:u 23= .pointer (some ⟨b,o+(i+1),none⟩):=(hI 23 (by decide)).val rfl
    have e24:u 24= .int .u8 p:=(hI 24 (by decide)).val rfl
    have e25:u 25= .bool false:=(hI 25 (by decide)).val rfl
    have e26:u 26= .bool false:=(hI 26 (by decide)).val rfl
    have e27:u 27= .slice (some ⟨b,o,none⟩) n cap:=(hI 27 (by decide)).val rfl
    have e28:u 28= .int .i64 (i+1+1:Nat):=(hI 28 (by decide)).val rfl
    have e29:u 29= .int .i64 (i+1:Nat):=(hI 29 (by decide)).val rfl
    have e30:u 30= .pointer (some ⟨b,o+(i+1),none⟩):=(hI 30 (by decide)).val rfl
    have e31:u 31= .int .u8 p:=(hI 31 (by decide)).val rfl
    have e32:u 32= .bool false:=(hI 32 (by decide)).val rfl
    have e33:u 33= .bool false:=(hI 33 (by decide)).val rfl
    have e34:u 34= .bool false:=(hI 34 (by decide)).val rfl
    clear hI
    simp only [Reg.aK,Act.put,List.setIfInBounds_toArray,List.set_cons_succ,List.set_cons_zero,Nat.zero_add,Nat.reduceAdd,e0,e1,e2,e3,e4,e5,e6,e7,e8,e9,e10,e11,e12,e13,e14,e15,e16,e17,e18,e19,e20,e21,e22,e23,e24,e25,e26,e27,e28,e29,e30,e31,e32,e33,e34]
    clear e0 e1 e2 e3 e4 e5 e6 e7 e8 e9 e10 e11 e12 e13 e14 e15 e16 e17 e18 e19 e20 e21 e22 e23 e24 e25 e26 e27 e28 e29 e30 e31 e32 e33 e34
    go_wp2_with fail
    go_meet
    exact ⟨rfl,⟨false,rfl,fun _=>fun h=>by rcases h.2.2.2 with h | h;exact h60 (HP.out.trans h);exact h62 (HP.out.trans h)⟩,HB.out.trans (hS.mono HB.out.size)⟩
  obtain ⟨rfl,⟨q2,rfl,hq2⟩,hbw⟩:=hcut
  have HQ2:=Lib.hid hq2
  have Jm:=Lib.hid hbw
  clear hq2 hbw
  cases q2 with
  | true=>
   go_wp2_with fail
   go_ret
   exact ⟨SetQ.yes l,Jm.out⟩
  | false=>
   go_wp2_with fail
   go_roundw
   case rel=>exact ⟨k+1,by go_num,by omega,fun j hj=>by
    rcases Nat.lt_or_ge j k with h | h
    ·exact HSM.out j h
    ·obtain rfl:j=k:=by omega
     exact fun h=>(setI_or h).elim (rH.out rfl) (HQ2.out rfl),Jm.out⟩
   case measure=>simp [intOf];omega
theorem sets_any (v:Value) (l:List Int) (w:World) (hs:Sl w v l):Calls Tryz.prog 32 #[v] w fun e w'=>SetQ l e∧Below w.heap.size w w':=by
 obtain ⟨hy,hl,⟨rfl,a,cap,rfl⟩ | ⟨b,o,cap,rfl,hcl,hcm,hr⟩⟩:=hs
 ·refine (WQ a cap w).mono ?_
  rintro e w' ⟨rfl,rfl⟩
  exact ⟨⟨false,rfl,fun _ i hi=>by simp at hi⟩,Below.refl _ _⟩
 ·by_cases h0:l=[]
  ·subst h0
   refine (WQ _ cap w).mono ?_
   rintro e w' ⟨rfl,rfl⟩
   exact ⟨⟨false,rfl,fun _ i hi=>by simp at hi⟩,Below.refl _ _⟩
  ·exact aaX b o cap l w hl hr (nZ (hr 0 (List.length_pos_iff.2 h0)))
end Go.Proofs.YtacfglopionkfaaGreatDoor
