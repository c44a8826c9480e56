import Derived.Test.YtacfglopionkfaaGreatDoorKDg
import Derived.Test.YtacfglopionkfaaGreatDoorAcVr
namespace Go.Proofs.YtacfglopionkfaaGreatDoor
open Go.RowKit
theorem NT (m b d v:Int) (hb:2≤b) (hd:0≤d) (hm:0≤m) (h:qZ m v=true):qZ m (v*b+d)=true:=by
 unfold qZ at*
 simp only [decide_eq_true_eq] at*
 have:v*1≤v*b:=Int.mul_le_mul_of_nonneg_left (by omega) (by omega)
 omega
theorem AA (c base:Int) (w:World) (h0:0≤c) (h1:c≤255) (h:oG c<base) (hb:base≤16):
  Calls Tryz.prog 109 #[.int .u8 c] w fun e w'=>e= .returned (.int .i64 (oG c))∧w=w':=by
 have:=lW c w h0 h1
 unfold IK at this
 rwa [if_neg (by omega)] at this
set_option maxHeartbeats 4000000 in
theorem Dj (b o cap:Nat) (l:List Int) (base:Int) (w:World) (hb:2≤base) (hb2:base≤16)
  (hl:l.length≤9223372036854775807) (hy:nN l) (hc:Row w b o l):
  Calls Tryz.prog 110 #[.slice (some ⟨b,o,none⟩) l.length cap,.int .i64 base] w
   fun e w'=>e= .returned (.tuple #[.int .i64 (rV base 9223372036854775807 l),.int .i64 (rN base l),.bool (rO base 9223372036854775807 l)])∧w=w':=by
 have HC:=Lib.hid hc
 have HY:=Lib.hid hy
 clear hc hy
 obtain ⟨n,hn⟩: ∃n,n=l.length:=⟨_,rfl⟩
 rw [←hn] at hl⊢
 have HN:=Lib.hid hn
 clear hn
 obtain ⟨M,hM⟩: ∃M:Int,M=9223372036854775807:=⟨_,rfl⟩
 have HM:=Lib.hid hM
 rw [←hM]
 have hm:16≤M:=by omega
 have hmm:M≤9223372036854775807:=by omega
 clear hM
 go_enter Tryz.func110,Tryz.ntmps110
 go_wp2
 go_loop [7,8,9,21] (fun v ov u i=> ∃k:Nat,∃x:Int,k≤n∧(∀j,j<k→um base (l.getD j 0)=true)∧i= .int .i64 k∧u= .int .i64 k∧v= .int .u64 x∧ov= .bool (qZ M (mM base l k))∧0≤x∧x≤M∧(qZ M (mM base l k)=false→x=cut M (mM base l k))) (fun _ _ _ i=>n - (intOf i).toNat)
 case atStart=>exact ⟨0,0,Nat.zero_le _,fun j hj=>absurd hj (by omega),rfl,rfl,rfl,by rw [kG];unfold qZ;simp;omega,by omega,by omega,fun _=>by rw [kG];unfold cut;rw [if_pos (by omega)]⟩
 case round=>
  obtain ⟨k,x,hk,hd,rfl,rfl,rfl,rfl,x0,x1,hx⟩:=hrel
  have HD:=Lib.hid hd
  have HX:=Lib.hid hx
  clear hd hx
  by_cases hlt:k<n
  ·have hcell:=HC.out k (by rw [←HN.out];exact hlt)
   have hby:=HY.out k
   have HS:=Lib.hid (uX base l k (by rw [←HN.out];exact hlt))
   have hv0:=lZ base (by omega) l k (by rw [←HN.out];omega)
   generalize hV:mM base l k=V at hv0 HS HX⊢
   have HW:=Lib.hid hV
   clear hV
   generalize hce:l.getD k 0=c at hcell hby HS
   have HE:=Lib.hid hce
   clear hce
   obtain ⟨y0,y1⟩:=hby
   obtain ⟨d0,d1⟩:=Di c
   by_cases hdb:oG c<base
   ·have HDD:Hid (∀j,j<k+1→um base (l.getD j 0)=true):=by
     intro j hj
     by_cases hjk:j=k
     ·rw [hjk,HE.out];unfold um;simpa using hdb
     ·exact HD.out j (by omega)
    by_cases ho:qZ M V=true
    ·have HO:=Lib.hid (NT M base (oG c) V hb d0 (by omega) ho)
     rw [ho]
     clear ho
     go_wp2_with (go_at_call 109;refine (AA _ base _ y0 y1 (by assumption) hb2).mono ?_;rintro e w' ⟨rfl,rfl⟩)
     go_round
     case rel=>exact ⟨k+1,x,by omega,HDD.out,by go_num,by go_num,rfl,by rw [HS.out,HO.out],by omega,by omega,fun h=>by rw [HS.out,HO.out] at h;cases h⟩
     case measure=>simp [intOf];omega
    ·have ho':qZ M V=false:=by simpa using ho
     rw [ho']
     have hxv:=HX.out ho'
     have HXV:=Lib.hid hxv
     clear ho hxv
     by_cases hq:(M - oG c) / base<x
     ·have HO:=Lib.hid (AB M (oG c) base V hb d0 hdb hv0 hm hb2 (by rw [←HXV.out];exact hq))
      clear ho'
      have hq2:(9223372036854775807 - oG c) / base<x:=by rw [←HM.out];exact hq
      go_wp2_with (go_at_call 109;refine (AA _ base _ y0 y1 (by assumption) hb2).mono ?_;rintro e w' ⟨rfl,rfl⟩)
      go_round
      case rel=>exact ⟨k+1,x,by omega,HDD.out,by go_num,by go_num,rfl,by rw [HS.out,HO.out.2],by omega,by omega,fun h=>by rw [HS.out,HO.out.2] at h;cases h⟩
      case measure=>simp [intOf];omega
     ·have HO:=Lib.hid (I5 M (oG c) base V hb d0 hdb hv0 hm hb2 (by rw [←HXV.out];exact hq))
      have Qo:x=V:=by rw [HXV.out,HO.out.2.1]
      have hvb:x*base+oG c≤M:=by rw [Qo];exact HO.out.2.2.1
      have Fe:0≤x*base:=by rw [Qo];exact Int.mul_nonneg hv0 (by omega)
      have HXV2:=Lib.hid Qo
      clear ho' Qo
      have hq2: ¬(9223372036854775807 - oG c) / base<x:=by rw [←HM.out];exact hq
      go_wp2_with (go_at_call 109;refine (AA _ base _ y0 y1 (by assumption) hb2).mono ?_;rintro e w' ⟨rfl,rfl⟩)
      go_round
      case rel=>exact ⟨k+1,x*base+oG c,by omega,HDD.out,by go_num,by go_num,rfl,by rw [HS.out,HO.out.2.2.2.2.1],by omega,by omega,fun _=>by rw [HS.out,HO.out.2.2.2.1,HXV2.out]⟩
      case measure=>simp [intOf];omega
   ·have HR:Hid (rN base l=k):=uZ _ l k (by rw [←HN.out];omega) HD.out (fun _=>by rw [HE.out];unfold um;simpa using hdb)
    have HV:Hid (rV base M l=cut M V∧rO base M l=qZ M V):=by unfold rV rO;rw [HR.out,HW.out];exact ⟨rfl,rfl⟩
    have hrb:base≤IK c:=by unfold IK;split<;>omega
    by_cases ho:qZ M V=true
    ·have HO:Hid (qZ M V=true∧cut M V=M):=⟨ho,by unfold qZ at ho;unfold cut;simp only [decide_eq_true_eq] at ho;rw [if_neg (by omega)]⟩
     rw [ho]
     clear ho
     go_wp2_with (go_at_call 109;refine (lW _ _ y0 y1).mono ?_;rintro e w' ⟨rfl,rfl⟩)
     go_ret3
     exact ⟨lG (by rw [HV.out.1,HO.out.2,HM.out]) (by rw [HR.out]) (by rw [HV.out.2,HO.out.1]),rfl⟩
    ·have ho':qZ M V=false:=by simpa using ho
     rw [ho']
     have HO:Hid (qZ M V=false∧x=cut M V):=⟨ho',HX.out ho'⟩
     clear ho ho'
     go_wp2_with (go_at_call 109;refine (lW _ _ y0 y1).mono ?_;rintro e w' ⟨rfl,rfl⟩)
     go_ret3
     exact ⟨lG (by rw [HV.out.1,HO.out.2]) (by rw [HR.out]) (by rw [HV.out.2,HO.out.1]),rfl⟩
  ·obtain rfl:k=n:=by omega
   have HR:Hid (rN base l=k):=uZ _ l k (by rw [←HN.out];omega) HD.out (fun h=>absurd h (by rw [←HN.out];omega))
   have HV:Hid (rV base M l=cut M (mM base l k)∧rO base M l=qZ M (mM base l k)):=by unfold rV rO;rw [HR.out];exact ⟨rfl,rfl⟩
   generalize mM base l k=V at HV HX⊢
   by_cases ho:qZ M V=true
   ·have HO:Hid (qZ M V=true∧cut M V=M):=⟨ho,by unfold qZ at ho;unfold cut;simp only [decide_eq_true_eq] at ho;rw [if_neg (by omega)]⟩
    rw [ho]
    clear ho
    go_wp2
    go_ret3
    exact ⟨lG (by rw [HV.out.1,HO.out.2,HM.out]) (by rw [HR.out]) (by rw [HV.out.2,HO.out.1]),rfl⟩
   ·have ho':qZ M V=false:=by simpa using ho
    rw [ho']
    have HO:Hid (qZ M V=false∧x=cut M V):=⟨ho',HX.out ho'⟩
    clear ho ho'
    go_wp2
    go_ret3
    exact ⟨lG (by rw [HV.out.1,HO.out.2]) (by rw [HR.out]) (by rw [HV.out.2,HO.out.1]),rfl⟩
set_option maxHeartbeats 4000000 in
theorem EY (a:Option Addr) (cap:Nat) (base:Int) (w:World) (hb:2≤base) (hb2:base≤16):
  Calls Tryz.prog 110 #[.slice a 0 cap,.int .i64 base] w
   fun e w'=>e= .returned (.tuple #[.int .i64 (rV base 9223372036854775807 []),.int .i64 (rN base []),.bool (rO base 9223372036854775807 [])])∧w=w':=by
 have HV:Hid (rV base 9223372036854775807 []=0∧rO base 9223372036854775807 []=false∧rN base []=0):=by
  have e:rN base []=0:=rfl
  unfold rV rO cut qZ
  rw [e,kG]
  exact ⟨if_pos (by omega),by simp,rfl⟩
 go_enter Tryz.func110,Tryz.ntmps110
 go_wp2
 go_loop [7,8,9,21] (fun v ov u i=>i= .int .i64 0∧u= .int .i64 0∧v= .int .u64 0∧ov= .bool false) (fun _ _ _ _=>0)
 case atStart=>exact ⟨rfl,rfl,rfl,rfl⟩
 case round=>
  obtain ⟨rfl,rfl,rfl,rfl⟩:=hrel
  go_wp2
  go_ret3
  exact ⟨lG HV.out.1.symm (by rw [HV.out.2.2];rfl) HV.out.2.1.symm,rfl⟩
theorem Jf (v:Value) (base:Int) (w:World) (h: ¬(2≤base∧base≤16)):
  Calls Tryz.prog 110 #[v,.int .i64 base] w fun e w'=>e= .returned (.tuple #[.int .i64 0,.int .i64 0,.bool false])∧w=w':=by
 rcases (by omega:base<2∨(2≤base∧16<base)) with h1 | ⟨h1,h2⟩
 all_goals
  clear h
  go_enter Tryz.func110,Tryz.ntmps110
  go_wp2
  all_goals
   go_ret3
   exact ⟨rfl,rfl⟩
theorem oD (v:Value) (l:List Int) (base:Int) (w:World) (hs:Sl w v l):
  Calls Tryz.prog 110 #[v,.int .i64 base] w fun e w'=>e= .returned (.tuple #[.int .i64 (gV base l),.int .i64 (gN base l),.bool (gO base l)])∧w=w':=by
 unfold gV gN gO
 by_cases h:2≤base∧base≤16
 ·rw [if_pos h,if_pos h,if_pos h]
  obtain ⟨hy,hl,⟨rfl,a,cap,rfl⟩ | ⟨b,o,cap,rfl,hcl,hcm,hr⟩⟩:=hs
  ·exact EY a cap base w h.1 h.2
  ·exact Dj b o cap l base w h.1 h.2 hl hy hr
 ·rw [if_neg h,if_neg h,if_neg h];exact Jf v base w h
theorem O7 (c:Int):IK c<16↔oG c<16:=by
 have:=Di c
 unfold IK
 split<;>omega
set_option maxHeartbeats 4000000 in
theorem Jg (b o cap:Nat) (l:List Int) (w:World) (hy:nN l) (hl:l.length≤9223372036854775807) (hcl:l.length≤cap) (hcm:cap≤9223372036854775807) (hc:Row w b o l) (hx:jv l=true):
  Calls Tryz.prog 79 #[.slice (some ⟨b,o,none⟩) l.length cap] w fun e w'=>e= .returned (.tuple #[.int .i64 (cV l),.int .i64 (cN l),.bool (cO l)])∧w=w':=by
 have HD:=Lib.hid (oD _ _ 16 w (Sl.drop hy hl hcl hcm hc 2 (by unfold jv at hx;simp at hx;omega)))
 have hgn:=Gu 16 (l.drop 2)
 simp only [List.length_drop] at hgn
 unfold cV cN cO
 rw [if_pos hx,if_pos hx,if_pos hx]
 generalize gV 16 (l.drop 2)=x at*
 generalize gN 16 (l.drop 2)=y at*
 generalize gO 16 (l.drop 2)=z at*
 unfold jv at hx
 simp only [Bool.and_eq_true,decide_eq_true_eq,Bool.or_eq_true,beq_iff_eq] at hx
 obtain ⟨⟨⟨hlen,hx0⟩,hx1⟩,hx2⟩:=hx
 have k0:=hc 0 (by omega)
 have k1:=hc 1 (by omega)
 have k2:=hc 2 (by omega)
 simp only [Nat.add_zero] at k0
 have y2:=hy 2
 have hr2:=(O7 (l.getD 2 0)).2 hx2
 rw [hx0] at k0
 generalize l.getD 1 0=c1 at*
 generalize l.getD 2 0=c2 at*
 clear hc hy hx0
 generalize l.length=n at*
 have hlen':(2:Int)<n:=by omega
 obtain ⟨y20,y21⟩:=y2
 rcases hx1 with rfl | rfl
 all_goals
  go_enter Tryz.func79,Tryz.ntmps79
  go_wp2_with (first | (go_at_call 109;refine (lW _ _ y20 y21).mono ?_;rintro e w' ⟨rfl,rfl⟩) | (go_at_call 110;refine HD.out.mono ?_;rintro e w' ⟨rfl,rfl⟩))
  go_ret3
  exact ⟨lG rfl (by omega) rfl,rfl⟩
set_option maxHeartbeats 4000000 in
theorem Jh (b o cap:Nat) (l:List Int) (w:World) (hy:nN l) (hl:l.length≤9223372036854775807) (hcl:l.length≤cap) (hcm:cap≤9223372036854775807) (hc:Row w b o l) (hx:jv l=false):
  Calls Tryz.prog 79 #[.slice (some ⟨b,o,none⟩) l.length cap] w fun e w'=>e= .returned (.tuple #[.int .i64 (cV l),.int .i64 (cN l),.bool (cO l)])∧w=w':=by
 have hx': ¬jv l=true:=by rw [hx];simp
 unfold cV cN cO
 rw [if_neg hx',if_neg hx',if_neg hx']
 have hsl:Sl w (.slice (some ⟨b,o,none⟩) l.length cap) l:=⟨hy,hl,Or.inr ⟨b,o,cap,rfl,hcl,hcm,hc⟩⟩
 have Z7:=Lib.hid (oD _ _ 8 w hsl)
 have Bl:=Lib.hid (oD _ _ 10 w hsl)
 clear hsl
 unfold jv at hx'
 simp only [Bool.and_eq_true,decide_eq_true_eq,Bool.or_eq_true,beq_iff_eq] at hx'
 have hcase:(l.length=0∧l.getD 0 0=0)∨(0<l.length∧l.length≤2)∨2<l.length:=by
  by_cases h:l.length=0
  ·left;refine ⟨h,?_⟩;rw [List.length_eq_zero_iff.1 h];rfl
  ·right;omega
 unfold cB
 clear hx
 rcases hcase with ⟨h0,hz⟩ | ⟨h0,h2⟩ | h2
 ·rw [hz,if_neg (by omega)]
  clear hc hy hx' hz
  generalize l.length=n at*
  subst h0
  go_enter Tryz.func79,Tryz.ntmps79
  go_wp2_with (go_at_call 110;refine Bl.out.mono ?_;rintro e w' ⟨rfl,rfl⟩)
  all_goals first | (exfalso;omega) | (go_ret3;exact ⟨rfl,rfl⟩)
 ·have k0:=hc 0 h0
  simp only [Nat.add_zero] at k0
  clear hc hy hx'
  generalize l.getD 0 0=c0 at*
  generalize l.length=n at*
  have h0':(0:Int)<n:=by omega
  by_cases hc0:c0=48
  ·subst hc0
   rw [if_pos rfl]
   go_enter Tryz.func79,Tryz.ntmps79
   go_wp2_with (go_at_call 110;(with_reducible refine Z7.out.mono ?_);rintro e w' ⟨rfl,rfl⟩)
   all_goals first | (exfalso;omega) | (go_ret3;exact ⟨rfl,rfl⟩)
  ·rw [if_neg hc0]
   have hc0':((c0:Int)==48)=false:=by simpa using hc0
   go_enter Tryz.func79,Tryz.ntmps79
   go_wp2_with (go_at_call 110;(with_reducible refine Bl.out.mono ?_);rintro e w' ⟨rfl,rfl⟩)
   all_goals first | (exfalso;omega) | (go_ret3;exact ⟨rfl,rfl⟩)
 ·have k0:=hc 0 (by omega)
  have k1:=hc 1 (by omega)
  have k2:=hc 2 (by omega)
  simp only [Nat.add_zero] at k0
  have y2:=hy 2
  have hr2:=O7 (l.getD 2 0)
  clear hc hy
  generalize l.getD 0 0=c0 at*
  generalize l.getD 1 0=c1 at*
  generalize l.getD 2 0=c2 at*
  generalize l.length=n at*
  have h2':(2:Int)<n:=by omega
  have h00:(0:Int)<n:=by omega
  have h000:0<n:=by omega
  obtain ⟨y20,y21⟩:=y2
  by_cases hc0:c0=48
  ·subst hc0
   rw [if_pos rfl]
   by_cases aak:c1=120
   ·subst aak
    have hn: ¬IK c2<16:=fun h=>hx' ⟨⟨⟨h2,rfl⟩,Or.inl rfl⟩,hr2.1 h⟩
    clear hx' hr2
    go_enter Tryz.func79,Tryz.ntmps79
    go_wp2_with (first | (go_at_call 109;refine (lW _ _ y20 y21).mono ?_;rintro e w' ⟨rfl,rfl⟩) | (go_at_call 110;(with_reducible refine Z7.out.mono ?_);rintro e w' ⟨rfl,rfl⟩))
    all_goals first | (exfalso;omega) | (go_ret3;exact ⟨rfl,rfl⟩)
   ·have e120:((c1:Int)==120)=false:=by simpa using aak
    by_cases h88:c1=88
    ·subst h88
     have hn: ¬IK c2<16:=fun h=>hx' ⟨⟨⟨h2,rfl⟩,Or.inr rfl⟩,hr2.1 h⟩
     clear hx' hr2
     go_enter Tryz.func79,Tryz.ntmps79
     go_wp2_with (first | (go_at_call 109;refine (lW _ _ y20 y21).mono ?_;rintro e w' ⟨rfl,rfl⟩) | (go_at_call 110;(with_reducible refine Z7.out.mono ?_);rintro e w' ⟨rfl,rfl⟩))
     all_goals first | (exfalso;omega) | (go_ret3;exact ⟨rfl,rfl⟩)
    ·have e88:((c1:Int)==88)=false:=by simpa using h88
     clear hx' hr2 h88 aak
     go_enter Tryz.func79,Tryz.ntmps79
     go_wp2_with (first | (go_at_call 109;refine (lW _ _ y20 y21).mono ?_;rintro e w' ⟨rfl,rfl⟩) | (go_at_call 110;(with_reducible refine Z7.out.mono ?_);rintro e w' ⟨rfl,rfl⟩))
     all_goals first | (exfalso;omega) | (go_ret3;exact ⟨rfl,rfl⟩)
  ·rw [if_neg hc0]
   have hc0':((c0:Int)==48)=false:=by simpa using hc0
   clear hx' hr2 hc0
   go_enter Tryz.func79,Tryz.ntmps79
   go_wp2_with (first | (go_at_call 109;refine (lW _ _ y20 y21).mono ?_;rintro e w' ⟨rfl,rfl⟩) | (go_at_call 110;(with_reducible refine Bl.out.mono ?_);rintro e w' ⟨rfl,rfl⟩))
   all_goals first | (exfalso;omega) | (go_ret3;exact ⟨rfl,rfl⟩)
theorem F6 (a:Option Addr) (cap:Nat) (w:World):
  Calls Tryz.prog 79 #[.slice a 0 cap] w fun e w'=>e= .returned (.tuple #[.int .i64 (cV []),.int .i64 (cN []),.bool (cO [])])∧w=w':=by
 have hsl:Sl w (.slice a 0 cap) []:=⟨fun i=>by simp,by simp,Or.inl ⟨rfl,a,cap,rfl⟩⟩
 have Bl:=Lib.hid (oD _ _ 10 w hsl)
 have e2:cV []=gV 10 []:=rfl
 have e3:cN []=gN 10 []:=rfl
 have e4:cO []=gO 10 []:=rfl
 rw [e2,e3,e4]
 clear e2 e3 e4 hsl
 go_enter Tryz.func79,Tryz.ntmps79
 go_wp2_with (go_at_call 110;refine Bl.out.mono ?_;rintro e w' ⟨rfl,rfl⟩)
 go_ret3
 exact ⟨rfl,rfl⟩
theorem iq (v:Value) (l:List Int) (w:World) (hs:Sl w v l):
  Calls Tryz.prog 79 #[v] w fun e w'=>e= .returned (.tuple #[.int .i64 (cV l),.int .i64 (cN l),.bool (cO l)])∧w=w':=by
 obtain ⟨hy,hl,⟨rfl,a,cap,rfl⟩ | ⟨b,o,cap,rfl,hcl,hcm,hr⟩⟩:=hs
 ·exact F6 a cap w
 ·cases hx:jv l with
  | true=>exact Jg b o cap l w hy hl hcl hcm hr hx
  | false=>exact Jh b o cap l w hy hl hcl hcm hr hx
def kM (a:Option Addr) (cap u:Nat):Option Addr:=if cap=u then a else Option.map (fun x=>x.add u) a
theorem Sl.rU {w:World} {a:Option Addr} {cap:Nat} {s:List Int} (h:Sl w (.slice a s.length cap) s) (u:Nat) (hu:u≤s.length):Sl w (.slice (kM a cap u) (s.length - u) (cap - u)) (s.drop u):=by
 rcases h.2.2 with ⟨rfl,a',cap',he⟩ | ⟨b,o,cap',he,hlc,hcm,hrow⟩
 ·have hu0:u=0:=by simpa using hu
  subst hu0
  exact ⟨h.1,h.2.1,Or.inl ⟨rfl,_,_,rfl⟩⟩
 ·simp only [Value.slice.injEq] at he
  obtain ⟨rfl,_,rfl⟩:=he
  by_cases hc:cap=u
  ·have hd:s.drop u=[]:=List.drop_of_length_le (by omega)
   rw [hd]
   exact ⟨fun i=>by simp,by simp,Or.inl ⟨rfl,kM (some ⟨b,o,none⟩) cap u,cap - u,by rw [show s.length - u=0 by omega]⟩⟩
  ·have e:kM (some ⟨b,o,none⟩) cap u=some ⟨b,o+u,none⟩:=by unfold kM;rw [if_neg hc];simp [WideShapes.add_plain]
   rw [e]
   exact Sl.drop h.1 h.2.1 hlc hcm hrow u hu
theorem Sl.uptoR {w:World} {a:Option Addr} {n cap:Nat} {s:List Int} (h:Sl w (.slice a n cap) s) (x:Nat) (hx:x≤s.length):Sl w (.slice a x cap) (s.take x):=by
 rcases h.2.2 with ⟨rfl,a',cap',he⟩ | ⟨b,o,cap',he,hlc,hcm,hrow⟩
 ·have hx0:x=0:=by simpa using hx
  subst hx0
  exact ⟨h.1,h.2.1,Or.inl ⟨rfl,a,cap,rfl⟩⟩
 ·simp only [Value.slice.injEq] at he
  obtain ⟨rfl,_,rfl⟩:=he
  have hl:(s.take x).length=x:=by simp;omega
  refine ⟨fun i=>?_,by omega,Or.inr ⟨b,o,cap,by rw [hl],by omega,hcm,fun i hi=>?_⟩⟩
  ·by_cases hi:i<x
   ·have:=h.1 i
    rwa [show (s.take x).getD i 0=s.getD i 0 by simp [List.getD,hi]]
   ·rw [List.getD,List.getElem?_eq_none (by omega)];simp
  ·rw [hl] at hi
   rw [show (s.take x).getD i 0=s.getD i 0 by simp [List.getD,hi]]
   exact hrow i (by omega)
end Go.Proofs.YtacfglopionkfaaGreatDoor
