import Derived.Test.YtacfglopionkfaaGreatDoorKPa
import Derived.Lib.ItoaNum
namespace Go.Proofs.YtacfglopionkfaaGreatDoor
open Go.RowKit
def dL (n:Nat):List Int:=(Lib.decDigits n).map fun c=>(c.toNat:Int)
theorem Ko (d:Nat) (h:d<10):((UInt8.ofNat (48+d)).toNat:Int)=48+d:=by
 have:(UInt8.ofNat (48+d)).toNat=48+d:=by simp;omega
 omega
theorem sQ {n:Nat} (h:n<10):dL n=[48+(n:Int)]:=by
 unfold dL
 rw [Lib.decDigits,dif_pos h]
 simp only [List.map_cons,List.map_nil]
 rw [Ko n h]
theorem xA {n:Nat} (h: ¬n<10):dL n=dL (n / 10)++[48+((n % 10:Nat):Int)]:=by
 unfold dL
 rw [Lib.decDigits,dif_neg h,List.map_append]
 simp only [List.map_cons,List.map_nil]
 rw [Ko (n % 10) (Nat.mod_lt _ (by decide))]
theorem UM (n:Nat): ∀c∈dL n,48≤c∧c≤57:=by
 induction n using Nat.strongRecOn with
 | ind n ih=>
  intro c hc
  by_cases h:n<10
  ·rw [sQ h] at hc
   simp only [List.mem_singleton] at hc
   omega
  ·rw [xA h] at hc
   rcases List.mem_append.1 hc with hc | hc
   ·exact ih (n / 10) (by omega) c hc
   ·simp only [List.mem_singleton] at hc
    omega
theorem D7 (n:Nat):0<(dL n).length:=by
 by_cases h:n<10
 ·rw [sQ h];simp
 ·rw [xA h];simp
theorem PS (n:Nat) (hn:0<n):(dL n).getD 0 0≠48:=by
 induction n using Nat.strongRecOn with
 | ind n ih=>
  by_cases h:n<10
  ·rw [sQ h];simp only [List.getD_cons_zero];omega
  ·rw [xA h,oU _ _ _ (D7 _)]
   exact ih (n / 10) (by omega) (by omega)
theorem NP (n:Nat):val 10 (dL n)=n:=by
 induction n using Nat.strongRecOn with
 | ind n ih=>
  by_cases h:n<10
  ·rw [sQ h]
   unfold val
   simp only [List.foldl_cons,List.foldl_nil]
   unfold oG
   rw [if_pos (by omega)]
   omega
  ·rw [xA h]
   have:=ih (n / 10) (by omega)
   unfold val at this⊢
   rw [List.foldl_append,this]
   simp only [List.foldl_cons,List.foldl_nil]
   unfold oG
   rw [if_pos (by omega)]
   omega
def Ends (r:List Int):Prop:= ∀x m,r=x::m→jd x=false∧jh x=false
theorem Ends.nil:Ends []:=fun _ _ h=>by cases h
theorem Jc {x:Int} (h:jd x=false):10≤oG x:=by
 unfold jd at h
 simp only [decide_eq_false_iff_not] at h
 unfold oG
 rw [if_neg h]
 split
 ·omega
 ·split<;>omega
theorem Pg (p:Int→Bool) (r:List Int) (hr: ∀x m,r=x::m→p x=false): ∀l:List Int,(∀c∈l,p c=true)→pre p (l++r)=l.length
 | [],_=>by
  cases r with
  | nil=>rfl
  | cons x m=>simp [pre,hr x m rfl]
 | c::l,h=>by
  have:=Pg p r hr l fun d hd=>h d (by simp [hd])
  unfold pre at this⊢
  rw [List.cons_append,List.takeWhile_cons_of_pos (h c (by simp)),List.length_cons,List.length_cons,this]
theorem BU {r:List Int} (h: ∀x m,r=x::m→jh x=false):fC r=0:=
 (iL _ _).same ⟨Nat.zero_le _,fun j hj=>absurd hj (by omega),fun hl=>by
  cases r with
  | nil=>simp at hl
  | cons x m=>simp [nameB,h x m rfl]⟩
theorem vF {r:List Int} (h: ∀x m,r=x::m→jd x=false):cN r=0:=by
 cases r with
 | nil=>simp [cN,jv,cB,gN,rN,pre]
 | cons x m=>
  have hx:=h x m rfl
  have hd:=Jc hx
  have h48:x≠48:=by rintro rfl;simp [jd] at hx
  have e1:jv (x::m)=false:=by simp [jv,h48]
  have e2:cB (x::m)=10:=by simp [cB,h48]
  unfold cN
  rw [e1,e2]
  simp only [Bool.false_eq_true,if_false]
  unfold gN
  rw [if_pos (by omega)]
  unfold rN pre
  have:um 10 x=false:=by unfold um;simpa using hd
  rw [List.takeWhile_cons_of_neg (by rw [this];decide)]
  rfl
theorem Vf (n:Nat) (hn:n≤9223372036854775807) (r:List Int) (hr:Ends r):cN (dL n++r)=(dL n).length∧cV (dL n++r)=n∧cO (dL n++r)=false:=by
 have hp: ∀b:Int,8≤b→b≤10→(∀c∈dL n,oG c<b)→rN b (dL n++r)=(dL n).length:=fun b hb hb2 hd=>
  Pg (um b) r (fun x m e=>by
   have:=Jc (hr x m e).1
   unfold um
   simp
   omega) (dL n) (fun c hc=>by
   unfold um
   simpa using hd c hc)
 have h10: ∀c∈dL n,oG c<10:=fun c hc=>by
  have:=UM n c hc
  unfold oG
  rw [if_pos this]
  omega
 have hex:jv (dL n++r)=false:=by
  by_cases hz:n=0
  ·subst hz
   rw [sQ (by omega)]
   cases r with
   | nil=>simp [jv]
   | cons x m=>
    have h1:=(hr x m rfl).2
    have h2:x≠120∧x≠88:=by
     refine ⟨?_,?_⟩<;>(rintro rfl;simp [jh] at h1)
    simp [jv,h2.1,h2.2]
  ·have h1:=PS n (by omega)
   have h2:(dL n++r).getD 0 0≠48:=by rw [oU _ _ _ (D7 n)];exact h1
   have h3:((dL n++r).getD 0 0==48)=false:=by simpa using h2
   unfold jv
   rw [h3,Bool.and_false,Bool.false_and,Bool.false_and]
 have key: ∀b:Int,8≤b→b≤10→(∀c∈dL n,oG c<b)→val b (dL n)=n→gN b (dL n++r)=(dL n).length∧gV b (dL n++r)=n∧gO b (dL n++r)=false:=by
  intro b hb hb2 hd hv
  have hN:=hp b hb hb2 hd
  have hK:mM b (dL n++r) (dL n).length=n:=by unfold mM;rw [List.take_left];exact hv
  refine ⟨?_,?_,?_⟩
  ·unfold gN;rw [if_pos (by omega),hN]
  ·unfold gV rV;rw [if_pos (by omega),hN,hK];unfold cut;rw [if_pos (by omega)]
  ·unfold gO rO;rw [if_pos (by omega),hN,hK];unfold qZ;simp;omega
 have hkey:gN (cB (dL n++r)) (dL n++r)=(dL n).length∧gV (cB (dL n++r)) (dL n++r)=n∧gO (cB (dL n++r)) (dL n++r)=false:=by
  by_cases hz:n=0
  ·subst hz
   have e:cB (dL 0++r)=8:=by rw [sQ (by omega)];simp [cB]
   rw [e]
   refine key 8 (by omega) (by omega) ?_ ?_
   ·rw [sQ (by omega)];simp [oG]
   ·rw [sQ (by omega)];simp [val,oG]
  ·have h1:=PS n (by omega)
   have h2:(dL n++r).getD 0 0≠48:=by rw [oU _ _ _ (D7 n)];exact h1
   have e:cB (dL n++r)=10:=by unfold cB;rw [if_neg h2]
   rw [e]
   exact key 10 (by omega) (by omega) h10 (NP n)
 unfold cN cV cO
 rw [hex]
 exact hkey
def J9:List UInt8:=[61,60,62,38,124]
def zB (r:List Int):Prop:= ∀x m,r=x::m→0≤x∧x≤255∧x≠61∧x≠60∧x≠62∧x≠38∧x≠124
theorem Lm: ∀s∈aF,∀o∈aF,o.size<s.size→s.data.toList.take o.size=o.data.toList→(s.data.toList.getD o.size 0)∈J9:=by decide
theorem H7: ∀i:Fin 35,∀j:Fin 35,j.val<i.val→(aF.getD j.val ak).size≤(aF.getD i.val ak).size→(aF.getD i.val ak).data.toList.take (aF.getD j.val ak).size≠(aF.getD j.val ak).data.toList:=by decide
theorem qo (s:ByteArray):(bT s).map (fun n=>UInt8.ofNat n.toNat)=s.data.toList:=by
 have:=congrArg (fun t:ByteArray=>t.data.toList) (Dw s)
 exact this
theorem lQ (l:List Int) (s:ByteArray):begins l s=true↔s.size≤l.length∧(l.take s.size).map (fun n=>UInt8.ofNat n.toNat)=s.data.toList:=by
 unfold begins
 simp only [Bool.and_eq_true,decide_eq_true_eq]
 refine and_congr_right fun _=>⟨fun h=>?_,fun h=>?_⟩
 ·exact congrArg (fun t:ByteArray=>t.data.toList) h
 ·obtain ⟨d⟩:=s
  unfold dI
  congr 1
  apply Array.toList_inj.1
  exact h
theorem C9 (o:ByteArray) (r:List Int):begins (bT o++r) o=true:=by
 rw [lQ]
 have hl:(bT o).length=o.size:=bC o
 refine ⟨by rw [List.length_append];omega,?_⟩
 rw [←hl,List.take_left,qo]
theorem EX (i:Nat) (hi:i<35) (j:Nat) (hj:j<i) (r:List Int) (hr:zB r):begins (bT (aF.getD i ak)++r) (aF.getD j ak)=false:=by
 cases hb:begins (bT (aF.getD i ak)++r) (aF.getD j ak) with
 | false=>rfl
 | true=>
  exfalso
  rw [lQ] at hb
  obtain ⟨h1,h2⟩:=hb
  have hl:(bT (aF.getD i ak)).length=(aF.getD i ak).size:=bC _
  have hmi:aF.getD i ak∈aF:=by
   have:i<aF.length:=hi
   rw [List.getD,List.getElem?_eq_getElem this]
   exact List.getElem_mem _
  have hmj:aF.getD j ak∈aF:=by
   have:j<aF.length:=by show j<35;omega
   rw [List.getD,List.getElem?_eq_getElem this]
   exact List.getElem_mem _
  have ha:=H7 ⟨i,hi⟩ ⟨j,by omega⟩ hj
  simp only [] at ha
  have ht:=Lm _ hmj _ hmi
  generalize aF.getD i ak=o at*
  generalize aF.getD j ak=s at*
  by_cases hs:s.size≤o.size
  ·rw [List.take_append_of_le_length (by omega),List.map_take,qo] at h2
   exact ha hs h2
  ·rw [List.take_append,List.map_append,List.take_of_length_le (by omega),qo,hl] at h2
   cases r with
   | nil=>
    rw [List.length_append,List.length_nil] at h1
    omega
   | cons x m=>
    obtain ⟨k,hk⟩: ∃k,s.size - o.size=k+1:=⟨s.size - o.size - 1,by omega⟩
    rw [hk,List.take_succ_cons,List.map_cons] at h2
    have hol:o.data.toList.length=o.size:=Array.length_toList
    have e1:s.data.toList.take o.size=o.data.toList:=by rw [←h2, ←hol,List.take_left]
    have e2:s.data.toList.getD o.size 0=UInt8.ofNat x.toNat:=by
     rw [←h2, ←hol]
     simp [List.getD]
    have hm:=ht (by omega) e1
    rw [e2] at hm
    obtain ⟨x0,x1,y1,y2,y3,y4,y5⟩:=hr x m rfl
    have hx:(UInt8.ofNat x.toNat).toNat=x.toNat:=by simp;omega
    unfold J9 at hm
    simp only [List.mem_cons,List.not_mem_nil,or_false] at hm
    rcases hm with h | h | h | h | h
    all_goals
     rw [h] at hx
     have hx:_=x.toNat:=hx
     simp at hx
     omega
theorem H9 (l:List Int) (i:Nat): ∀L:List ByteArray,(∀j,j<i→begins l (L.getD j ak)=false)→i<L.length→begins l (L.getD i ak)=true→dJ l L=L.getD i ak:=by
 induction i with
 | zero=>
  intro L _ hl hb
  cases L with
  | nil=>simp at hl
  | cons s L=>
   simp only [List.getD_cons_zero] at hb⊢
   unfold dJ
   rw [if_pos hb]
 | succ i ih=>
  intro L hj hl hb
  cases L with
  | nil=>simp at hl
  | cons s L=>
   have h0:=hj 0 (by omega)
   simp only [List.getD_cons_zero] at h0
   unfold dJ
   rw [if_neg (by rw [h0];decide)]
   simp only [List.getD_cons_succ] at hb⊢
   exact ih L (fun j h=>by have:=hj (j+1) (by omega);simpa using this) (by simpa using hl) hb
theorem UD (i:Nat) (hi:i<35) (r:List Int) (hr:zB r):mG (bT (aF.getD i ak)++r)=aF.getD i ak:=
 H9 _ i aF (fun j hj=>EX i hi j hj r hr) hi (C9 _ r)
theorem Eb: ∀s∈aF,0<s.size∧(s.data.toList.all fun c=> !(decide (48≤c∧c≤57)) && !(decide ((97≤c∧c≤122)∨(65≤c∧c≤90)∨c=95)))=true:=by decide
end Go.Proofs.YtacfglopionkfaaGreatDoor
