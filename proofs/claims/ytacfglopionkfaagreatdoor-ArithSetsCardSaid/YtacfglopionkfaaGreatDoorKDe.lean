import Derived.Test.YtacfglopionkfaaGreatDoorKPa
import Derived.Lib.ItoaNum
import Derived.Test.YtacfglopionkfaaGreatDoorKEx
namespace Go.Proofs.YtacfglopionkfaaGreatDoor
open Go.RowKit
def dL (n:Nat):List Int:=(Lib.decDigits n).map fun c=>(c.toNat:Int)
theorem Ko (d:Nat) (h:d<10):((UInt8.ofNat (48+d)).toNat:Int)=48+d:=by
 have:(UInt8.ofNat (48+d)).toNat=48+d:=by simp;omega
 omega
theorem sQ {n:Nat} (h:n<10):dL n=[48+(n:Int)]:=by
 unfold dL
 rw [Lib.decDigits,dif_pos h]
 simp only [List.map_cons,List.map_nil]
 rw [Ko n h]
theorem xA {n:Nat} (h: ¬n<10):dL n=dL (n / 10)++[48+((n % 10:Nat):Int)]:=by
 unfold dL
 rw [Lib.decDigits,dif_neg h,List.map_append]
 simp only [List.map_cons,List.map_nil]
 rw [Ko (n % 10) (Nat.mod_lt _ (by decide))]
def Ends (r:List Int):Prop:= ∀x m,r=x::m→jd x=false∧jh x=false
theorem Ends.cons {x:Int} {m:List Int} (h:jd x=false∧jh x=false):Ends (x::m):=fun _ _ e=>by
 simp only [List.cons.injEq] at e
 obtain ⟨rfl,rfl⟩:=e
 exact h
theorem Jc {x:Int} (h:jd x=false):10≤oG x:=by
 unfold jd at h
 simp only [decide_eq_false_iff_not] at h
 unfold oG
 rw [if_neg h]
 split
 ·omega
 ·split<;>omega
theorem BU {r:List Int} (h: ∀x m,r=x::m→jh x=false):fC r=0:=
 (iL _ _).same ⟨Nat.zero_le _,fun j hj=>absurd hj (by omega),fun hl=>by
  cases r with
  | nil=>simp at hl
  | cons x m=>simp [nameB,h x m rfl]⟩
theorem vF {r:List Int} (h: ∀x m,r=x::m→jd x=false):cN r=0:=by
 cases r with
 | nil=>simp [cN,jv,cB,gN,rN,pre]
 | cons x m=>
  have hx:=h x m rfl
  have hd:=Jc hx
  have h48:x≠48:=by rintro rfl;simp [jd] at hx
  have e1:jv (x::m)=false:=by simp [jv,h48]
  have e2:cB (x::m)=10:=by simp [cB,h48]
  unfold cN
  rw [e1,e2]
  simp only [Bool.false_eq_true,if_false]
  unfold gN
  rw [if_pos (by omega)]
  unfold rN pre
  have:um 10 x=false:=by unfold um;simpa using hd
  rw [List.takeWhile_cons_of_neg (by rw [this];decide)]
  rfl
def J9:List UInt8:=[61,60,62,38,124]
def zB (r:List Int):Prop:= ∀x m,r=x::m→0≤x∧x≤255∧x≠61∧x≠60∧x≠62∧x≠38∧x≠124
theorem Lm: ∀s∈aF,∀o∈aF,o.size<s.size→s.data.toList.take o.size=o.data.toList→(s.data.toList.getD o.size 0)∈J9:=by decide
theorem H7: ∀i:Fin 35,∀j:Fin 35,j.val<i.val→(aF.getD j.val ak).size≤(aF.getD i.val ak).size→(aF.getD i.val ak).data.toList.take (aF.getD j.val ak).size≠(aF.getD j.val ak).data.toList:=by decide
theorem qo (s:ByteArray):(bT s).map (fun n=>UInt8.ofNat n.toNat)=s.data.toList:=by
 have:=congrArg (fun t:ByteArray=>t.data.toList) (Dw s)
 exact this
theorem lQ (l:List Int) (s:ByteArray):begins l s=true↔s.size≤l.length∧(l.take s.size).map (fun n=>UInt8.ofNat n.toNat)=s.data.toList:=by
 unfold begins
 simp only [Bool.and_eq_true,decide_eq_true_eq]
 refine and_congr_right fun _=>⟨fun h=>?_,fun h=>?_⟩
 ·exact congrArg (fun t:ByteArray=>t.data.toList) h
 ·obtain ⟨d⟩:=s
  unfold dI
  congr 1
  apply Array.toList_inj.1
  exact h
theorem C9 (o:ByteArray) (r:List Int):begins (bT o++r) o=true:=by
 rw [lQ]
 have hl:(bT o).length=o.size:=bC o
 refine ⟨by rw [List.length_append];omega,?_⟩
 rw [←hl,List.take_left,qo]
theorem EX (i:Nat) (hi:i<35) (j:Nat) (hj:j<i) (r:List Int) (hr:zB r):begins (bT (aF.getD i ak)++r) (aF.getD j ak)=false:=by
 cases hb:begins (bT (aF.getD i ak)++r) (aF.getD j ak) with
 | false=>rfl
 | true=>
  exfalso
  rw [lQ] at hb
  obtain ⟨h1,h2⟩:=hb
  have hl:(bT (aF.getD i ak)).length=(aF.getD i ak).size:=bC _
  have hmi:aF.getD i ak∈aF:=by
   have:i<aF.length:=hi
   rw [List.getD,List.getElem?_eq_getElem this]
   exact List.getElem_mem _
  have hmj:aF.getD j ak∈aF:=by
   have:j<aF.length:=by show j<35;omega
   rw [List.getD,List.getElem?_eq_getElem this]
   exact List.getElem_mem _
  have ha:=H7 ⟨i,hi⟩ ⟨j,by omega⟩ hj
  simp only [] at ha
  have ht:=Lm _ hmj _ hmi
  generalize aF.getD i ak=o at*
  generalize aF.getD j ak=s at*
  by_cases hs:s.size≤o.size
  ·rw [List.take_append_of_le_length (by omega),List.map_take,qo] at h2
   exact ha hs h2
  ·rw [List.take_append,List.map_append,List.take_of_length_le (by omega),qo,hl] at h2
   cases r with
   | nil=>
    rw [List.length_append,List.length_nil] at h1
    omega
   | cons x m=>
    obtain ⟨k,hk⟩: ∃k,s.size - o.size=k+1:=⟨s.size - o.size - 1,by omega⟩
    rw [hk,List.take_succ_cons,List.map_cons] at h2
    have hol:o.data.toList.length=o.size:=Array.length_toList
    have e1:s.data.toList.take o.size=o.data.toList:=by rw [←h2, ←hol,List.take_left]
    have e2:s.data.toList.getD o.size 0=UInt8.ofNat x.toNat:=by
     rw [←h2, ←hol]
     simp [List.getD]
    have hm:=ht (by omega) e1
    rw [e2] at hm
    obtain ⟨x0,x1,y1,y2,y3,y4,y5⟩:=hr x m rfl
    have hx:(UInt8.ofNat x.toNat).toNat=x.toNat:=by simp;omega
    unfold J9 at hm
    simp only [List.mem_cons,List.not_mem_nil,or_false] at hm
    rcases hm with h | h | h | h | h
    all_goals
     rw [h] at hx
     have hx:_=x.toNat:=hx
     simp at hx
     omega
theorem H9 (l:List Int) (i:Nat): ∀L:List ByteArray,(∀j,j<i→begins l (L.getD j ak)=false)→i<L.length→begins l (L.getD i ak)=true→dJ l L=L.getD i ak:=by
 induction i with
 | zero=>
  intro L _ hl hb
  cases L with
  | nil=>simp at hl
  | cons s L=>
   simp only [List.getD_cons_zero] at hb⊢
   unfold dJ
   rw [if_pos hb]
 | succ i ih=>
  intro L hj hl hb
  cases L with
  | nil=>simp at hl
  | cons s L=>
   have h0:=hj 0 (by omega)
   simp only [List.getD_cons_zero] at h0
   unfold dJ
   rw [if_neg (by rw [h0];decide)]
   simp only [List.getD_cons_succ] at hb⊢
   exact ih L (fun j h=>by have:=hj (j+1) (by omega);simpa using this) (by simpa using hl) hb
theorem UD (i:Nat) (hi:i<35) (r:List Int) (hr:zB r):mG (bT (aF.getD i ak)++r)=aF.getD i ak:=
 H9 _ i aF (fun j hj=>EX i hi j hj r hr) hi (C9 _ r)
theorem Eb: ∀s∈aF,0<s.size∧(s.data.toList.all fun c=> !(decide (48≤c∧c≤57)) && !(decide ((97≤c∧c≤122)∨(65≤c∧c≤90)∨c=95)))=true:=by decide
theorem tokL_op (i:Nat) (hi:i<35) (r:List Int) (hr:zB r) (q:Nat):gY (bT (aF.getD i ak)++r) q=⟨4,q,q+(aF.getD i ak).size,aF.getD i ak,0,false⟩:=by
 have hb:=UD i hi r hr
 have hm:aF.getD i ak∈aF:=by
  have:i<aF.length:=hi
  rw [List.getD,List.getElem?_eq_getElem this]
  exact List.getElem_mem _
 obtain ⟨hs,hall⟩:=Eb _ hm
 generalize aF.getD i ak=o at*
 have hl:(bT o).length=o.size:=bC _
 have h0:0<(bT o++r).length:=by rw [List.length_append];omega
 have hne: ¬o=ak:=by rintro rfl;exact absurd hs (by decide)
 have hfirst: ∀x m,bT o++r=x::m→jd x=false∧jh x=false:=by
  intro x m e
  cases hc:bT o with
  | nil=>rw [hc] at hl;simp at hl;omega
  | cons y ys=>
   rw [hc,List.cons_append] at e
   simp only [List.cons.injEq] at e
   obtain ⟨rfl,_⟩:=e
   have hd:o.data.toList=UInt8.ofNat y.toNat::(ys.map fun n=>UInt8.ofNat n.toNat):=by rw [←qo,hc];rfl
   have hy:y=((UInt8.ofNat y.toNat).toNat:Int):=by
    have hbt:=Bc o 0
    rw [hc] at hbt
    simp only [List.getD_cons_zero] at hbt
    simp
    omega
   rw [hd] at hall
   simp only [List.all_cons,Bool.and_eq_true] at hall
   obtain ⟨⟨a1,a2⟩,_⟩:=hall
   generalize UInt8.ofNat y.toNat=c at*
   subst hy
   simp only [Bool.not_eq_true',decide_eq_false_iff_not,UInt8.le_iff_toNat_le, ←UInt8.toNat_inj] at a1 a2
   have z1:(48:UInt8).toNat=48:=rfl
   have z2:(57:UInt8).toNat=57:=rfl
   have z3:(97:UInt8).toNat=97:=rfl
   have z4:(122:UInt8).toNat=122:=rfl
   have z5:(65:UInt8).toNat=65:=rfl
   have z6:(90:UInt8).toNat=90:=rfl
   have z7:(95:UInt8).toNat=95:=rfl
   rw [z1,z2] at a1
   rw [z3,z4,z5,z6,z7] at a2
   unfold jd jh
   simp only [decide_eq_false_iff_not]
   refine ⟨by omega,by omega⟩
 rw [yF h0 (by rw [BU fun x m e=>(hfirst x m e).2];omega) (by rw [vF fun x m e=>(hfirst x m e).1];omega) (by rw [hb];exact hne),hb]
theorem WS {l:List Int} {n k:Nat} {left:Tr} {t:Tk} (h: ¬k≤dO t.text):rd l (n+1) (.loop k left) t=some (.ok left t):=by
 simp only [rd]
 rw [if_neg h]
theorem loop_go {l:List Int} {n k:Nat} {left b:Tr} {t t2:Tk} (h:k≤dO t.text) (hb:rd l n (.bin (dO t.text+1)) (tok l t.stop)=some (.ok b t2)):rd l (n+1) (.loop k left) t=rd l n (.loop k (.bin t.text t.start left b)) t2:=by
 simp only [rd]
 rw [if_pos h,hb]
theorem bin_of {l:List Int} {n k:Nat} {a:Tr} {t t1:Tk} (h:rd l n .iR t=some (.ok a t1)):rd l (n+1) (.bin k) t=rd l n (.loop k a) t1:=by
 simp only [rd]
 rw [h]
theorem cond_of {l:List Int} {n:Nat} {a:Tr} {t t1:Tk} (h:rd l n (.bin 1) t=some (.ok a t1)) (hq: ¬t1.text=iE):rd l (n+1) .cond t=some (.ok a t1):=by
 simp only [rd]
 rw [h]
 simp only []
 rw [if_neg hq]
theorem tok_here (y r:List Int) (h: ∀x m,r=x::m→bM x=false):tok (y++r) y.length=gY r y.length:=by
 have e:ay (y++r) y.length=y.length:=by
  unfold ay
  rw [List.drop_left]
  cases r with
  | nil=>simp [pre]
  | cons x m=>simp [pre,h x m rfl]
 unfold tok
 rw [e,List.drop_left]
theorem ZH (i:Nat) (hi:i<35): ∃x m,bT (aF.getD i ak)=x::m∧jd x=false∧jh x=false∧bM x=false:=by
 have h: ∀i:Fin 35,(match bT (aF.getD i.val ak) with | []=>false | x::_=> !(jd x) && !(jh x) && !(bM x))=true:=by decide
 have hh:=h ⟨i,hi⟩
 simp only [] at hh
 generalize bT (aF.getD i ak)=b at*
 match b,hh with
 | x::m,hh=>
  simp only [Bool.and_eq_true,Bool.not_eq_true'] at hh
  exact ⟨x,m,rfl,hh.1.1,hh.1.2,hh.2⟩
theorem op_ends (i:Nat) (hi:i<35) (r:List Int):Ends (bT (aF.getD i ak)++r):=by
 obtain ⟨x,m,e,h1,h2,_⟩:=ZH i hi
 rw [e]
 exact Ends.cons ⟨h1,h2⟩
theorem op_solid (i:Nat) (hi:i<35) (r:List Int): ∀x m,bT (aF.getD i ak)++r=x::m→bM x=false:=by
 obtain ⟨x,m,e,_,_,h3⟩:=ZH i hi
 rw [e]
 intro x' m' e'
 simp only [List.cons_append,List.cons.injEq] at e'
 rw [←e'.1]
 exact h3
theorem ZE (l:List Int):tok l l.length=⟨0,l.length,l.length,ak,0,false⟩:=by
 have e:ay l l.length=l.length:=by unfold ay;rw [List.drop_length];rfl
 unfold tok
 rw [e,List.drop_length]
 rfl
end Go.Proofs.YtacfglopionkfaaGreatDoor
