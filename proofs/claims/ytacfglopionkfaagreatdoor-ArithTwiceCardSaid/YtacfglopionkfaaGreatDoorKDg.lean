import Derived.Test.YtacfglopionkfaaGreatDoorScRead
import Derived.Deep.QuietTactic
import Derived.LoopTactic
namespace Go.Proofs.YtacfglopionkfaaGreatDoor
open Go.RowKit
def Sl (w:World) (v:Value) (l:List Int):Prop:=
 nN l∧l.length≤9223372036854775807∧((l=[]∧ ∃a cap,v= .slice a 0 cap)∨ ∃b o cap,v= .slice (some ⟨b,o,none⟩) l.length cap∧l.length≤cap∧cap≤9223372036854775807∧Row w b o l)
theorem Ht (v:Value) (l:List Int) (base most:Int) (w:World) (hb:2≤base) (hb2:base≤16) (hm:16≤most) (hm2:most≤9223372036854775808) (h:Sl w v l):
  Calls Tryz.prog 171 #[v,.int .u64 base,.int .u64 most] w
   fun e w'=>e= .returned (.tuple #[.int .u64 (rV base most l),.int .i64 (rN base l),.bool (rO base most l)])∧w=w':=by
 obtain ⟨hy,hl,⟨rfl,a,cap,rfl⟩ | ⟨b,o,cap,rfl,hcl,hcm,hr⟩⟩:=h
 ·exact Et a cap base most w hm
 ·exact CP b o cap l base most w hb hb2 hm hm2 hl hy hr
def gV (base:Int) (l:List Int):Int:=if 2≤base∧base≤16 then rV base 9223372036854775807 l else 0
def gN (base:Int) (l:List Int):Nat:=if 2≤base∧base≤16 then rN base l else 0
def gO (base:Int) (l:List Int):Bool:=if 2≤base∧base≤16 then rO base 9223372036854775807 l else false
theorem Zo (base m:Int) (l:List Int) (hb:0≤base) (hm:0≤m):0≤rV base m l∧rV base m l≤m:=
 Kr _ _ (lZ _ hb _ _ (vU _ _)) hm
theorem Ip (v:Value) (base:Int) (w:World) (h: ¬(2≤base∧base≤16)):
  Calls Tryz.prog 144 #[v,.int .i64 base] w fun e w'=>e= .returned (.tuple #[.int .i64 0,.int .i64 0,.bool false])∧w=w':=by
 have hd:decide (2≤base∧base≤16)=false:=by simpa using h
 have HI:Hid (Calls Tryz.prog 170 #[.int .i64 base] w fun e w'=>e= .returned (.bool false)∧w=w'):=by have:=wP base w;rw [hd] at this;exact this
 clear hd h
 go_enter Tryz.func144,Tryz.ntmps144
 go_wp2_with (go_at_call 170;refine HI.out.mono ?_;rintro e w' ⟨rfl,rfl⟩)
 go_ret3
 exact ⟨rfl,rfl⟩
theorem EP (v:Value) (l:List Int) (base:Int) (w:World) (hs:Sl w v l) (h:2≤base∧base≤16):
  Calls Tryz.prog 144 #[v,.int .i64 base] w fun e w'=>e= .returned (.tuple #[.int .i64 (rV base 9223372036854775807 l),.int .i64 (rN base l),.bool (rO base 9223372036854775807 l)])∧w=w':=by
 have hd:decide (2≤base∧base≤16)=true:=by simpa using h
 have HI:Hid (Calls Tryz.prog 170 #[.int .i64 base] w fun e w'=>e= .returned (.bool true)∧w=w'):=by have:=wP base w;rw [hd] at this;exact this
 clear hd
 have HR:=Lib.hid (Ht v l base 9223372036854775807 w h.1 h.2 (by omega) (by omega) hs)
 obtain ⟨x0,x1⟩:=Zo base 9223372036854775807 l (by omega) (by omega)
 generalize rV base 9223372036854775807 l=x at*
 generalize rO base 9223372036854775807 l=y at*
 generalize rN base l=z at*
 obtain ⟨h1,h2⟩:=h
 clear hs
 go_enter Tryz.func144,Tryz.ntmps144
 go_wp2_with (first | (go_at_call 170;refine HI.out.mono ?_;rintro e w' ⟨rfl,rfl⟩) | (go_at_call 171;refine HR.out.mono ?_;rintro e w' ⟨rfl,rfl⟩))
 go_ret3
 exact ⟨rfl,rfl⟩
theorem nG (v:Value) (l:List Int) (base:Int) (w:World) (hs:Sl w v l):
  Calls Tryz.prog 144 #[v,.int .i64 base] w fun e w'=>e= .returned (.tuple #[.int .i64 (gV base l),.int .i64 (gN base l),.bool (gO base l)])∧w=w':=by
 unfold gV gN gO
 by_cases h:2≤base∧base≤16
 ·rw [if_pos h,if_pos h,if_pos h];exact EP v l base w hs h
 ·rw [if_neg h,if_neg h,if_neg h];exact Ip v base w h
def jv (l:List Int):Bool:=decide (2<l.length) && (l.getD 0 0==48) && ((l.getD 1 0==120) || (l.getD 1 0==88)) && decide (oG (l.getD 2 0)<16)
set_option maxHeartbeats 4000000 in
theorem nX (b o cap:Nat) (l:List Int) (w:World) (hl:l.length≤9223372036854775807) (hy:nN l) (hc:Row w b o l):
  Calls Tryz.prog 143 #[.slice (some ⟨b,o,none⟩) l.length cap] w fun e w'=>e= .returned (.bool (jv l))∧w=w':=by
 obtain ⟨x,hx⟩: ∃x,x=jv l:=⟨_,rfl⟩
 rw [←hx]
 unfold jv at hx
 by_cases hlen:2<l.length
 ·have k0:=hc 0 (by omega)
  have k1:=hc 1 (by omega)
  have k2:=hc 2 (by omega)
  simp only [Nat.add_zero] at k0
  have y2:=hy 2
  rw [decide_eq_true hlen] at hx
  generalize l.getD 0 0=c0 at*
  generalize l.getD 1 0=c1 at*
  generalize l.getD 2 0=c2 at*
  generalize l.length=n at*
  clear hc hy
  have HX:=Lib.hid hx
  clear hx
  obtain ⟨y20,y21⟩:=y2
  have hn2:(2:Int)<n:=by omega
  go_enter Tryz.func143,Tryz.ntmps143
  go_wp2_with (go_at_call 169;refine (pK _ _ y20 y21).mono ?_;rintro e w' ⟨rfl,rfl⟩)
  all_goals
   go_ret
   exact ⟨bK (by rw [HX.out,Bool.eq_iff_iff];simp;try omega),rfl⟩
 ·have e:x=false:=by rw [hx];simp [hlen]
  subst e
  clear hx hc hy
  generalize l.length=n at*
  go_enter Tryz.func143,Tryz.ntmps143
  go_wp2
  all_goals
   go_ret
   exact ⟨rfl,rfl⟩
theorem wY (a:Option Addr) (cap:Nat) (w:World):
  Calls Tryz.prog 143 #[.slice a 0 cap] w fun e w'=>e= .returned (.bool (jv []))∧w=w':=by
 have HX:Hid (false=jv []):=rfl
 go_enter Tryz.func143,Tryz.ntmps143
 go_wp2
 go_ret
 exact ⟨bK HX.out,rfl⟩
def cB (l:List Int):Int:=if l.getD 0 0=48 then 8 else 10
def cV (l:List Int):Int:=if jv l then gV 16 (l.drop 2) else gV (cB l) l
def cN (l:List Int):Nat:=if jv l then 2+gN 16 (l.drop 2) else gN (cB l) l
def cO (l:List Int):Bool:=if jv l then gO 16 (l.drop 2) else gO (cB l) l
theorem Sl.drop {w:World} {b o cap:Nat} {l:List Int} (hy:nN l) (_hl:l.length≤9223372036854775807) (hcl:l.length≤cap) (hcm:cap≤9223372036854775807) (hr:Row w b o l) (k:Nat) (hk:k≤l.length):
  Sl w (.slice (some ⟨b,o+k,none⟩) (l.length - k) (cap - k)) (l.drop k):=by
 refine ⟨fun i=>?_,by simp;omega,Or.inr ⟨b,o+k,cap - k,by simp,by simp;omega,by omega,fun i hi=>?_⟩⟩
 ·have:=hy (k+i)
  simpa [List.getD,List.getElem?_drop] using this
 ·have:=hr (k+i) (by simp at hi;omega)
  rw [Nat.add_assoc]
  rw [this]
  simp [List.getD,List.getElem?_drop]
theorem Gu (base:Int) (l:List Int):gN base l≤l.length:=by
 unfold gN rN
 split
 ·exact vU _ _
 ·omega
set_option maxHeartbeats 4000000 in
theorem Iq (b o cap:Nat) (l:List Int) (w:World) (hy:nN l) (hl:l.length≤9223372036854775807) (hcl:l.length≤cap) (hcm:cap≤9223372036854775807) (hc:Row w b o l) (hx:jv l=true):
  Calls Tryz.prog 104 #[.slice (some ⟨b,o,none⟩) l.length cap] w fun e w'=>e= .returned (.tuple #[.int .i64 (cV l),.int .i64 (cN l),.bool (cO l)])∧w=w':=by
 have hlen:2<l.length:=by unfold jv at hx;simp at hx;omega
 have HB:=Lib.hid (nX b o cap l w hl hy hc)
 rw [hx] at HB
 have HD:=Lib.hid (nG _ _ 16 w (Sl.drop hy hl hcl hcm hc 2 (by omega)))
 have hgn:=Gu 16 (l.drop 2)
 simp only [List.length_drop] at hgn
 unfold cV cN cO
 rw [if_pos hx,if_pos hx,if_pos hx]
 generalize gV 16 (l.drop 2)=x at*
 generalize gN 16 (l.drop 2)=y at*
 generalize gO 16 (l.drop 2)=z at*
 clear hx hc hy
 generalize l.length=n at*
 go_enter Tryz.func104,Tryz.ntmps104
 go_wp2_with (first | (go_at_call 143;refine HB.out.mono ?_;rintro e w' ⟨rfl,rfl⟩) | (go_at_call 144;refine HD.out.mono ?_;rintro e w' ⟨rfl,rfl⟩))
 go_ret3
 exact ⟨lG rfl (by omega) rfl,rfl⟩
set_option maxHeartbeats 4000000 in
theorem Ir (b o cap:Nat) (l:List Int) (w:World) (hy:nN l) (hl:l.length≤9223372036854775807) (hcl:l.length≤cap) (hcm:cap≤9223372036854775807) (hc:Row w b o l) (hx:jv l=false):
  Calls Tryz.prog 104 #[.slice (some ⟨b,o,none⟩) l.length cap] w fun e w'=>e= .returned (.tuple #[.int .i64 (cV l),.int .i64 (cN l),.bool (cO l)])∧w=w':=by
 have HB:=Lib.hid (nX b o cap l w hl hy hc)
 rw [hx] at HB
 have hx': ¬jv l=true:=by rw [hx];simp
 unfold cV cN cO
 rw [if_neg hx',if_neg hx',if_neg hx']
 have hsl:Sl w (.slice (some ⟨b,o,none⟩) l.length cap) l:=⟨hy,hl,Or.inr ⟨b,o,cap,rfl,hcl,hcm,hc⟩⟩
 have Z7:=Lib.hid (nG _ _ 8 w hsl)
 have Bl:=Lib.hid (nG _ _ 10 w hsl)
 clear hsl hx hx'
 have hcase:(l.length=0∧l.getD 0 0=0)∨0<l.length:=by
  by_cases h:l.length=0
  ·left;refine ⟨h,?_⟩;rw [List.length_eq_zero_iff.1 h];rfl
  ·right;omega
 unfold cB
 rcases hcase with ⟨h0,hz⟩ | h0
 ·rw [hz,if_neg (by omega)]
  clear hc hy
  generalize l.length=n at*
  subst h0
  go_enter Tryz.func104,Tryz.ntmps104
  go_wp2_with (first | (go_at_call 143;refine HB.out.mono ?_;rintro e w' ⟨rfl,rfl⟩) | (go_at_call 144;refine Bl.out.mono ?_;rintro e w' ⟨rfl,rfl⟩))
  go_ret3
  exact ⟨rfl,rfl⟩
 ·have k0:=hc 0 h0
  simp only [Nat.add_zero] at k0
  clear hc hy
  generalize l.getD 0 0=c0 at*
  generalize l.length=n at*
  have h0':(0:Int)<n:=by omega
  by_cases hc0:c0=48
  ·subst hc0
   rw [if_pos rfl]
   go_enter Tryz.func104,Tryz.ntmps104
   go_wp2_with (first | (go_at_call 143;refine HB.out.mono ?_;rintro e w' ⟨rfl,rfl⟩) | (go_at_call 144;(with_reducible refine Z7.out.mono ?_);rintro e w' ⟨rfl,rfl⟩))
   go_ret3
   exact ⟨rfl,rfl⟩
  ·rw [if_neg hc0]
   have hc0':((c0:Int)==48)=false:=by simpa using hc0
   go_enter Tryz.func104,Tryz.ntmps104
   go_wp2_with (first | (go_at_call 143;refine HB.out.mono ?_;rintro e w' ⟨rfl,rfl⟩) | (go_at_call 144;(with_reducible refine Bl.out.mono ?_);rintro e w' ⟨rfl,rfl⟩))
   go_ret3
   exact ⟨rfl,rfl⟩
theorem ER (a:Option Addr) (cap:Nat) (w:World):
  Calls Tryz.prog 104 #[.slice a 0 cap] w fun e w'=>e= .returned (.tuple #[.int .i64 (cV []),.int .i64 (cN []),.bool (cO [])])∧w=w':=by
 have HB:=Lib.hid (wY a cap w)
 have hsl:Sl w (.slice a 0 cap) []:=⟨fun i=>by simp,by simp,Or.inl ⟨rfl,a,cap,rfl⟩⟩
 have Bl:=Lib.hid (nG _ _ 10 w hsl)
 have e:jv []=false:=rfl
 rw [e] at HB
 have e2:cV []=gV 10 []:=rfl
 have e3:cN []=gN 10 []:=rfl
 have e4:cO []=gO 10 []:=rfl
 rw [e2,e3,e4]
 clear e e2 e3 e4 hsl
 go_enter Tryz.func104,Tryz.ntmps104
 go_wp2_with (first | (go_at_call 143;refine HB.out.mono ?_;rintro e w' ⟨rfl,rfl⟩) | (go_at_call 144;refine Bl.out.mono ?_;rintro e w' ⟨rfl,rfl⟩))
 go_ret3
 exact ⟨rfl,rfl⟩
theorem uf (v:Value) (l:List Int) (w:World) (hs:Sl w v l):
  Calls Tryz.prog 104 #[v] w fun e w'=>e= .returned (.tuple #[.int .i64 (cV l),.int .i64 (cN l),.bool (cO l)])∧w=w':=by
 obtain ⟨hy,hl,⟨rfl,a,cap,rfl⟩ | ⟨b,o,cap,rfl,hcl,hcm,hr⟩⟩:=hs
 ·exact ER a cap w
 ·cases hx:jv l with
  | true=>exact Iq b o cap l w hy hl hcl hcm hr hx
  | false=>exact Ir b o cap l w hy hl hcl hcm hr hx
set_option maxHeartbeats 2000000 in
theorem EI (c k:Int) (w:World) (h0:0≤c) (h1:c≤255) (hk:0≤k):
  Calls Tryz.prog 123 #[.int .u8 c,.int .i64 k] w fun e w'=>e= .returned (.bool (jh c || (decide (0<k) && jd c)))∧w=w':=by
 have hd: ∃x,x=(jh c || (decide (0<k) && jd c)):=⟨_,rfl⟩
 obtain ⟨x,hx⟩:=hd
 rw [←hx]
 have HX:=Lib.hid hx
 clear hx
 rcases (by omega:k=0∨0<k) with rfl | hkp
 all_goals
  rcases (by omega:c<48∨(48≤c∧c≤57)∨(57<c∧c<65)∨(65≤c∧c≤90)∨(90<c∧c<95)∨c=95∨c=96∨(97≤c∧c≤122)∨122<c) with h | h | h | h | h | rfl | rfl | h | h
  all_goals
   go_enter Tryz.func123,Tryz.ntmps123
   go_wp2
   all_goals
    go_ret
    exact ⟨bK (by rw [HX.out];unfold jh jd;rw [Bool.eq_iff_iff];simp;try omega),rfl⟩
def vY (p:Nat→Bool) (n k:Nat):Prop:=k≤n∧(∀j,j<k→p j=true)∧(k<n→p k=false)
theorem vY.same {p:Nat→Bool} {n k k':Nat} (h:vY p n k) (h':vY p n k'):k=k':=by
 obtain ⟨a,b,c⟩:=h
 obtain ⟨a',b',c'⟩:=h'
 rcases Nat.lt_trichotomy k k' with g | g | g
 ·have:=c (by omega);rw [b' k g] at this;cases this
 ·exact g
 ·have:=c' (by omega);rw [b k' g] at this;cases this
def iG (p:Nat→Bool):Nat→Nat
 | 0=>0
 | n+1=>if iG p n=n∧p n=true then n+1 else iG p n
theorem iL (p:Nat→Bool): ∀n,vY p n (iG p n)
 | 0=>⟨by simp [iG],fun j hj=>absurd hj (by simp [iG]),fun h=>absurd h (by omega)⟩
 | n+1=>by
  obtain ⟨a,b,c⟩:=iL p n
  unfold iG
  by_cases h:iG p n=n∧p n=true
  ·rw [if_pos h]
   refine ⟨by omega,fun j hj=>?_,fun h=>absurd h (by omega)⟩
   by_cases hj':j=n
   ·rw [hj'];exact h.2
   ·exact b j (by omega)
  ·rw [if_neg h]
   refine ⟨by omega,b,fun hlt=>?_⟩
   by_cases hn:iG p n=n
   ·rw [hn];simpa using fun hp=>h ⟨hn,hp⟩
   ·exact c (by omega)
def nameB (l:List Int) (j:Nat):Bool:=jh (l.getD j 0) || (decide ((0:Int)<j) && jd (l.getD j 0))
set_option maxHeartbeats 4000000 in
theorem EC (b o cap:Nat) (l:List Int) (w:World) (hl:l.length≤9223372036854775807) (hy:nN l) (hc:Row w b o l):
  Calls Tryz.prog 92 #[.slice (some ⟨b,o,none⟩) l.length cap] w fun e w'=>e= .returned (.int .i64 (iG (nameB l) l.length))∧w=w':=by
 have HC:=Lib.hid hc
 have HY:=Lib.hid hy
 clear hc hy
 obtain ⟨n,hn⟩: ∃n,n=l.length:=⟨_,rfl⟩
 rw [←hn] at hl⊢
 have HN:=Lib.hid hn
 clear hn
 go_enter Tryz.func92,Tryz.ntmps92
 go_wp2
 go_loop [3] (fun i=> ∃k:Nat,k≤n∧(∀j,j<k→nameB l j=true)∧i= .int .i64 k) (fun i=>n - (intOf i).toNat)
 case atStart=>exact ⟨0,Nat.zero_le _,fun j hj=>absurd hj (by omega),rfl⟩
 case round=>
  obtain ⟨k,hk,hd,rfl⟩:=hrel
  have HD:=Lib.hid hd
  clear hd
  by_cases hlt:k<n
  ·have hcell:=HC.out k (by rw [←HN.out];exact hlt)
   have hby:=HY.out k
   obtain ⟨q,hq⟩: ∃q,q=nameB l k:=⟨_,rfl⟩
   have HQ:Hid (q=(jh (l.getD k 0) || (decide ((0:Int)<k) && jd (l.getD k 0)))):=hq
   have HK:=Lib.hid hq
   clear hq
   generalize l.getD k 0=c at hcell hby HQ
   obtain ⟨y0,y1⟩:=hby
   have hk0:(0:Int)≤k:=by omega
   have HI:=Lib.hid (EI c k w y0 y1 hk0)
   rw [←HQ.out] at HI
   clear HQ
   cases q with
   | true=>
    go_wp2_with (go_at_call 123;refine HI.out.mono ?_;rintro e w' ⟨rfl,rfl⟩)
    go_round
    case rel=>
     refine ⟨k+1,by omega,fun j hj=>?_,by go_num⟩
     by_cases hjk:j=k
     ·rw [hjk];exact HK.out.symm
     ·exact HD.out j (by omega)
    case measure=>simp [intOf];omega
   | false=>
    have HS:Hid (iG (nameB l) n=k):=(iL _ _).same ⟨by omega,HD.out,fun _=>HK.out.symm⟩
    go_wp2_with (go_at_call 123;refine HI.out.mono ?_;rintro e w' ⟨rfl,rfl⟩)
    go_ret
    exact ⟨je (by rw [HS.out]),rfl⟩
  ·obtain rfl:k=n:=by omega
   have HS:Hid (iG (nameB l) k=k):=(iL _ _).same ⟨by omega,HD.out,fun h=>absurd h (by omega)⟩
   go_wp2
   go_ret
   exact ⟨je (by rw [HS.out]),rfl⟩
theorem Ia (a:Option Addr) (cap:Nat) (w:World):
  Calls Tryz.prog 92 #[.slice a 0 cap] w fun e w'=>e= .returned (.int .i64 (iG (nameB []) 0))∧w=w':=by
 have HS:Hid (iG (nameB []) 0=0):=rfl
 go_enter Tryz.func92,Tryz.ntmps92
 go_wp2
 go_loop [3] (fun i=>i= .int .i64 0) (fun _=>0)
 case atStart=>rfl
 case round=>
  obtain rfl:=hrel
  go_wp2
  go_ret
  exact ⟨je (by rw [HS.out];rfl),rfl⟩
theorem zu (v:Value) (l:List Int) (w:World) (hs:Sl w v l):
  Calls Tryz.prog 92 #[v] w (fun e w'=>e= .returned (.int .i64 (iG (nameB l) l.length))∧w=w'):=by
 obtain ⟨hy,hl,⟨rfl,a,cap,rfl⟩ | ⟨b,o,cap,rfl,hcl,hcm,hr⟩⟩:=hs
 ·exact Ia a cap w
 ·exact EC b o cap l w hl hy hr
end Go.Proofs.YtacfglopionkfaaGreatDoor
