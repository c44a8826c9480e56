import Derived.Test.YtacfglopionkfaaGreatDoorKSc
import Derived.LoopTactic
import Derived.WalkMore
namespace Go.Proofs.YtacfglopionkfaaGreatDoor
open Go.RowKit
theorem lG {k:IntKind} {v v' n n':Int} {b b':Bool} (h1:v=v') (h2:n=n') (h3:b=b'):Ending.returned (.tuple #[.int k v,.int .i64 n,.bool b])= .returned (.tuple #[.int k v',.int .i64 n',.bool b']):=by rw [h1,h2,h3]
def Row (w:World) (b o:Nat) (l:List Int):Prop:= ∀i,i<l.length→w.cell? ⟨b,o+i,none⟩=some (.int .u8 (l.getD i 0))
def bT (s:ByteArray):List Int:=s.data.toList.map fun c=>(c.toNat:Int)
theorem bC (s:ByteArray):(bT s).length=s.size:=by unfold bT;simp
theorem Cc (s:ByteArray) (k:Nat) (h:k<s.size):(bT s).getD k 0=(s[k].toNat:Int):=by
 unfold bT
 have h':k<s.data.toList.length:=by simpa using h
 rw [List.getD,List.getElem?_map,List.getElem?_eq_getElem h']
 rfl
theorem Bc (s:ByteArray):nN (bT s):=by
 intro i
 by_cases h:i<s.size
 ·rw [Cc s i h]
  have:=s[i].toNat_lt
  omega
 ·have:(bT s).getD i 0=0:=by
   rw [List.getD,List.getElem?_eq_none (by rw [bC];omega)];rfl
  rw [this];omega
set_option maxHeartbeats 4000000 in
theorem CP (b o cap:Nat) (l:List Int) (base most:Int) (w:World) (hb:2≤base) (hb2:base≤16) (hm:16≤most) (hm2:most≤9223372036854775808)
  (hl:l.length≤9223372036854775807) (hy:nN l) (hc:Row w b o l):
  Calls Tryz.prog 171 #[.slice (some ⟨b,o,none⟩) l.length cap,.int .u64 base,.int .u64 most] w
   fun e w'=>e= .returned (.tuple #[.int .u64 (rV base most l),.int .i64 (rN base l),.bool (rO base most l)])∧w=w':=by
 have HC:=Lib.hid hc
 have HY:=Lib.hid hy
 clear hc hy
 obtain ⟨n,hn⟩: ∃n,n=l.length:=⟨_,rfl⟩
 rw [←hn] at hl⊢
 have HN:=Lib.hid hn
 clear hn
 go_enter Tryz.func171,Tryz.ntmps171
 go_wp2
 go_step3
 go_wp2
 go_step3
 go_wp2
 go_loop [6,7,8] (fun v i ov=> ∃k:Nat,k≤n∧(∀j,j<k→um base (l.getD j 0)=true)∧i= .int .i64 k∧v= .int .u64 (cut most (mM base l k))∧ov= .bool (qZ most (mM base l k))) (fun _ i _=>n - (intOf i).toNat)
 case atStart=>exact ⟨0,Nat.zero_le _,fun j hj=>absurd hj (by omega),rfl,by rw [kG];unfold cut;rw [if_pos (by omega)],by rw [kG];unfold qZ;simp;omega⟩
 case round=>
  obtain ⟨k,hk,hd,rfl,rfl,rfl⟩:=hrel
  have HD:=Lib.hid hd
  clear hd
  by_cases hlt:k<n
  ·have hcell:=HC.out k (by rw [←HN.out];exact hlt)
   have hby:=HY.out k
   have HS:=Lib.hid (uX base l k (by rw [←HN.out];exact hlt))
   have hv0:=lZ base (by omega) l k (by rw [←HN.out];omega)
   generalize hV:mM base l k=V at hv0 HS⊢
   have HW:=Lib.hid hV
   clear hV
   generalize hce:l.getD k 0=c at hcell hby HS
   have HE:=Lib.hid hce
   clear hce
   obtain ⟨y0,y1⟩:=hby
   obtain ⟨d0,d1⟩:=Di c
   obtain ⟨v0,v1⟩:=Kr most V hv0 (by omega)
   by_cases hdb:oG c<base
   ·by_cases hq:(most - oG c) / base<cut most V
    ·have HO:=Lib.hid (AB most (oG c) base V hb d0 hdb hv0 hm hb2 hq)
     generalize hcv:cut most V=v at*
     generalize hov:qZ most V=ov at*
     clear hcv hov
     go_wp2_with (go_at_call 169;refine (pK _ _ y0 y1).mono ?_;rintro e w' ⟨rfl,rfl⟩)
     go_round
     case rel=>
      refine ⟨k+1,by omega,fun j hj=>?_,by go_num,?_,?_⟩
      ·by_cases hjk:j=k
       ·rw [hjk,HE.out];unfold um;simpa using hdb
       ·exact HD.out j (by omega)
      ·rw [HS.out,HO.out.1]
      ·rw [HS.out,HO.out.2]
     case measure=>simp [intOf];omega
    ·have HO:=Lib.hid (I5 most (oG c) base V hb d0 hdb hv0 hm hb2 hq)
     have hvb:cut most V*base+oG c≤most:=by rw [HO.out.2.1];exact HO.out.2.2.1
     have Fe:0≤cut most V*base:=by rw [HO.out.2.1];exact Int.mul_nonneg hv0 (by omega)
     have hov:qZ most V=false:=HO.out.2.2.2.2.2
     have Ai:Hid (cut most (V*base+oG c)=cut most V*base+oG c∧qZ most (V*base+oG c)=false):=⟨by rw [HO.out.2.2.2.1,HO.out.2.1],HO.out.2.2.2.2.1⟩
     clear HO
     rw [hov]
     generalize hcv:cut most V=v at*
     clear hcv hov
     go_wp2_with (go_at_call 169;refine (pK _ _ y0 y1).mono ?_;rintro e w' ⟨rfl,rfl⟩)
     go_round
     case rel=>
      refine ⟨k+1,by omega,fun j hj=>?_,by go_num,?_,?_⟩
      ·by_cases hjk:j=k
       ·rw [hjk,HE.out];unfold um;simpa using hdb
       ·exact HD.out j (by omega)
      ·rw [HS.out,Ai.out.1]
      ·rw [HS.out,Ai.out.2]
     case measure=>simp [intOf];omega
   ·have HR:Hid (rN base l=k):=uZ _ l k (by rw [←HN.out];omega) HD.out (fun _=>by rw [HE.out];unfold um;simpa using hdb)
    have HV:Hid (rV base most l=cut most V∧rO base most l=qZ most V):=by unfold rV rO;rw [HR.out,HW.out];exact ⟨rfl,rfl⟩
    go_wp2_with (go_at_call 169;refine (pK _ _ y0 y1).mono ?_;rintro e w' ⟨rfl,rfl⟩)
    rw [Exit.noGoto_ret]
    go_ret3
    exact ⟨lG HV.out.1.symm (by rw [HR.out]) HV.out.2.symm,rfl⟩
  ·obtain rfl:k=n:=by omega
   have HR:Hid (rN base l=k):=uZ _ l k (by rw [←HN.out];omega) HD.out (fun h=>absurd h (by rw [←HN.out];omega))
   have HV:Hid (rV base most l=cut most (mM base l k)∧rO base most l=qZ most (mM base l k)):=by unfold rV rO;rw [HR.out];exact ⟨rfl,rfl⟩
   go_wp2
   go_ret3
   exact ⟨lG HV.out.1.symm (by rw [HR.out]) HV.out.2.symm,rfl⟩
set_option maxHeartbeats 4000000 in
theorem Et (a:Option Addr) (cap:Nat) (base most:Int) (w:World) (hm:16≤most):
  Calls Tryz.prog 171 #[.slice a 0 cap,.int .u64 base,.int .u64 most] w
   fun e w'=>e= .returned (.tuple #[.int .u64 (rV base most []),.int .i64 (rN base []),.bool (rO base most [])])∧w=w':=by
 have HV:Hid (rV base most []=0∧rO base most []=false∧rN base []=0):=by
  have e:rN base []=0:=rfl
  unfold rV rO cut qZ
  rw [e,kG]
  exact ⟨if_pos (by omega),by simp;omega,rfl⟩
 go_enter Tryz.func171,Tryz.ntmps171
 go_wp2
 go_step3
 go_wp2
 go_step3
 go_wp2
 go_loop [6,7,8] (fun v i ov=>i= .int .i64 0∧v= .int .u64 0∧ov= .bool false) (fun _ _ _=>0)
 case atStart=>exact ⟨rfl,rfl,rfl⟩
 case round=>
  obtain ⟨rfl,rfl,rfl⟩:=hrel
  go_wp2
  go_ret3
  exact ⟨lG HV.out.1.symm (by rw [HV.out.2.2];rfl) HV.out.2.1.symm,rfl⟩
end Go.Proofs.YtacfglopionkfaaGreatDoor
