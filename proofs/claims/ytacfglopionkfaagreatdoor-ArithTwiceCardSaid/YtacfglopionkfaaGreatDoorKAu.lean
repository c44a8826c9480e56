import Derived.Test.YtacfglopionkfaaGreatDoorKVj
import Derived.Test.YtacfglopionkfaaGreatDoorKRa
namespace Go.Proofs.YtacfglopionkfaaGreatDoor
set_option maxHeartbeats 8000000
set_option maxRecDepth 100000
open Go.RowKit Go.WideMaps Go.Maps
theorem MI: ∀op∈aF,fZ op=true→bF op=ak∨((lN.any fun x=>decide (x=bF op))=true∧ ¬bF op=fV∧ ¬bF op=jR):=by decide
theorem Jd (op:ByteArray) (h:op∈aF) (h2:fZ op=true):bF op=ak∨(bF op∈lN∧ ¬bF op=fV∧ ¬bF op=jR):=by
 rcases MI op h h2 with h | ⟨h,k⟩
 ·exact Or.inl h
 ·obtain ⟨x,hx,he⟩:=List.any_eq_true.1 h
  have:=of_decide_eq_true he
  subst this
  exact Or.inr ⟨hx,k⟩
theorem lD (NV:ByteArray→Int × Nat): ∀(t:Tr) (e:Asc),t.Ops→ev NV t e≠ .no
 | .num n p,e,_=>by simp [ev]
 | .name s p,e,_=>by
  show jZ NV s p e≠ .no
  unfold jZ
  split
  ·simp
  ·split<;>simp
 | .un op p a,e,ho=>eU (lD NV a e ho.2) (fun v e1=>Gw ho.1 v e1)
 | .bin op p a b,e,ho=>by
  refine eU (lD NV a e ho.2.1) (fun v e1=>?_)
  have ib:=lD NV b e1 ho.2.2
  by_cases c1:op=fV
  ·simp only [if_pos c1]
   by_cases c:v=0
   ·simp [if_pos c]
   ·simp only [if_neg c];exact eU ib (fun u e2=>sS u e2)
  ·simp only [if_neg c1]
   by_cases c2:op=jR
   ·simp only [if_pos c2]
    by_cases c:v=0
    ·simp only [if_pos c];exact eU ib (fun u e2=>sS u e2)
    ·simp [if_neg c]
   ·simp only [if_neg c2];exact eU ib (fun u e2=>xQ (FB ho.1) c1 c2 _ v u e2)
 | .cond op p a b c,e,ho=>by
  refine eU (lD NV a e ho.2.1) (fun v e1=>?_)
  by_cases c0:v=0
  ·simp only [if_pos c0];exact lD NV c e1 ho.2.2.2
  ·simp only [if_neg c0];exact lD NV b e1 ho.2.2.1
 | .eF op s p q a,e,ho=>by
  by_cases h1:bF op=ak
  ·have he:ev NV (.eF op s p q a) e=(ev NV a e).then fun v e1=> .ok v ((s,v)::e1):=by simp only [ev];rw [if_pos h1]
   rw [he]
   exact eU (lD NV a e ho.2.2.2) (fun v e1=>by simp)
  ·have he:ev NV (.eF op s p q a) e=(jZ NV s p e).then fun v e1=>(ev NV a e1).then fun u e2=>(gq (bF op) q v u e2).then fun x e3=> .ok x ((s,x)::e3):=by simp only [ev];rw [if_neg h1]
   rw [he]
   rcases Jd op ho.2.1 ho.1 with h | ⟨h2,h3,h4⟩
   ·exact absurd h h1
   refine eU ?_ (fun v e1=>eU (lD NV a e1 ho.2.2.2) (fun u e2=>eU (xQ h2 h3 h4 q v u e2) (fun x e3=>by simp)))
   unfold jZ
   split
   ·simp
   ·split<;>simp
def gW (v:Int):ByteArray:=⟨(Lib.itoa v).toArray⟩
def iK:Asc→Vl→Vl
 | [],l=>l
 | (k,v)::r,l=>iw k (gW v) (iK r l)
theorem uO {l:Vl} (h:l.lS): ∀e:Asc,(iK e l).lS
 | []=>h
 | (_k,_v)::r=>lU (uO h r)
theorem rJ {l:Vl} (h:l.lS) (s:ByteArray): ∀e:Asc,dX (iK e l) s=match look e s with | some v=>some (gW v) | none=>dX l s
 | []=>rfl
 | (k,v)::r=>by
  show dX (iw k (gW v) (iK r l)) s=_
  rw [wH (uO h r),rJ h s r]
  simp only [look]
  by_cases c:k=s
  ·simp [c]
  ·simp [c]
theorem xR (l:Vl): ∀e:Asc,(iK e l).length≤l.length+e.length
 | []=>Nat.le_refl _
 | (k,v)::r=>by
  have h1:=xR l r
  have h2:(iw k (gW v) (iK r l)).length≤(iK r l).length+1:=uN k (gW v) (iK r l) false
  simp only [iK,List.length_cons]
  omega
def kC (e:Asc):Prop:= ∀x∈e,I64 x.2
theorem kC.look {e:Asc} (h:kC e) {s:ByteArray} {v:Int} (hl:look e s=some v):I64 v:=by
 induction e with
 | nil=>cases hl
 | cons y r ih=>
  obtain ⟨k,u⟩:=y
  simp only [Go.Proofs.YtacfglopionkfaaGreatDoor.look] at hl
  by_cases c:k=s
  ·rw [if_pos c] at hl;cases hl;exact h _ (List.mem_cons_self ..)
  ·rw [if_neg c] at hl;exact ih (fun x hx=>h x (List.mem_cons_of_mem _ hx)) hl
theorem kC.cons {e:Asc} (h:kC e) {s:ByteArray} {v:Int} (hv:I64 v):kC ((s,v)::e):=by
 intro x hx
 rcases List.mem_cons.1 hx with rfl | hx
 ·exact hv
 ·exact h x hx
theorem D5 {op:ByteArray} {v x:Int} {e e':Asc} (h:ig op v e= .ok x e') (he:kC e):I64 x∧kC e':=⟨BR h,by rw [jG h];exact he⟩
theorem J3 {op:ByteArray} {p:Nat} {l r x:Int} {e e':Asc} (h:gq op p l r e= .ok x e') (hl:I64 l) (he:kC e):I64 x∧kC e':=⟨Bv h hl,by rw [l9 h];exact he⟩
theorem Ny {NV:ByteArray→Int × Nat} (qU: ∀n,I64 (NV n).1) {s:ByteArray} {p:Nat} {x:Int} {e e':Asc} (h:jZ NV s p e= .ok x e') (he:kC e):I64 x∧kC e':=by
 refine ⟨?_,by rw [mX h];exact he⟩
 unfold jZ at h
 cases hl:look e s with
 | some v=>
  rw [hl] at h
  simp only [Rv.ok.injEq] at h
  rw [←h.1];exact he.look hl
 | none=>
  rw [hl] at h
  simp only at h
  split at h
  ·simp only [Rv.ok.injEq] at h;rw [←h.1];exact qU s
  ·cases h
theorem qY (NV:ByteArray→Int × Nat) (qU: ∀n,I64 (NV n).1): ∀(t:Tr) (e e':Asc) (v:Int),t.Fits→kC e→ev NV t e= .ok v e'→I64 v∧kC e'
 | .num n p,e,e',v,hf,he,h=>by simp only [ev,Rv.ok.injEq] at h;rw [←h.1, ←h.2];exact ⟨hf,he⟩
 | .name s p,e,e',v,_,he,h=>Ny qU (show jZ NV s p e= .ok v e' from h) he
 | .un op p a,e,e',v,hf,he,h=>by
  obtain ⟨u,e1,h1,h2⟩:=Rv.then_ok (show (ev NV a e).then (fun v e1=>ig op v e1)=_ from h)
  exact D5 h2 (qY NV qU a e e1 u hf he h1).2
 | .bin op p a b,e,e',v,hf,he,h=>by
  obtain ⟨u,e1,h1,h2⟩:=Rv.then_ok (show (ev NV a e).then _=_ from h)
  obtain ⟨i0,i1⟩:=qY NV qU a e e1 u hf.1 he h1
  by_cases c1:op=fV
  ·rw [if_pos c1] at h2
   by_cases c:u=0
   ·rw [if_pos c] at h2;simp only [Rv.ok.injEq] at h2;rw [←h2.1, ←h2.2];exact ⟨by unfold I64;omega,i1⟩
   ·rw [if_neg c] at h2
    obtain ⟨x,e2,j1,j2⟩:=Rv.then_ok h2
    exact D5 j2 (qY NV qU b e1 e2 x hf.2 i1 j1).2
  ·rw [if_neg c1] at h2
   by_cases c2:op=jR
   ·rw [if_pos c2] at h2
    by_cases c:u=0
    ·rw [if_pos c] at h2
     obtain ⟨x,e2,j1,j2⟩:=Rv.then_ok h2
     exact D5 j2 (qY NV qU b e1 e2 x hf.2 i1 j1).2
    ·rw [if_neg c] at h2;simp only [Rv.ok.injEq] at h2;rw [←h2.1, ←h2.2];exact ⟨by unfold I64;omega,i1⟩
   ·rw [if_neg c2] at h2
    obtain ⟨x,e2,j1,j2⟩:=Rv.then_ok h2
    exact J3 j2 i0 (qY NV qU b e1 e2 x hf.2 i1 j1).2
 | .cond op p a b c,e,e',v,hf,he,h=>by
  obtain ⟨u,e1,h1,h2⟩:=Rv.then_ok (show (ev NV a e).then _=_ from h)
  obtain ⟨_,i1⟩:=qY NV qU a e e1 u hf.1 he h1
  by_cases c0:u=0
  ·rw [if_pos c0] at h2;exact qY NV qU c e1 e' v hf.2.2 i1 h2
  ·rw [if_neg c0] at h2;exact qY NV qU b e1 e' v hf.2.1 i1 h2
 | .eF op s p q a,e,e',v,hf,he,h=>by
  by_cases h1:bF op=ak
  ·have hh:ev NV (.eF op s p q a) e=(ev NV a e).then fun v e1=> .ok v ((s,v)::e1):=by simp only [ev];rw [if_pos h1]
   rw [hh] at h
   obtain ⟨u,e1,j1,j2⟩:=Rv.then_ok h
   obtain ⟨i0,i1⟩:=qY NV qU a e e1 u hf.2 he j1
   simp only [Rv.ok.injEq] at j2
   rw [←j2.1, ←j2.2]
   exact ⟨i0,i1.cons i0⟩
  ·have hh:ev NV (.eF op s p q a) e=(jZ NV s p e).then fun v e1=>(ev NV a e1).then fun u e2=>(gq (bF op) q v u e2).then fun x e3=> .ok x ((s,x)::e3):=by simp only [ev];rw [if_neg h1]
   rw [hh] at h
   obtain ⟨u,e1,j1,j2⟩:=Rv.then_ok h
   obtain ⟨i0,i1⟩:=Ny qU j1 he
   obtain ⟨x,e2,k1,k2⟩:=Rv.then_ok j2
   obtain ⟨k3,k4⟩:=qY NV qU a e1 e2 x hf.2 i1 k1
   obtain ⟨y,e3,l1,l2⟩:=Rv.then_ok k2
   obtain ⟨l3,l4⟩:=J3 l1 i0 k4
   simp only [Rv.ok.injEq] at l2
   rw [←l2.1, ←l2.2]
   exact ⟨l3,l4.cons l3⟩
theorem UL (n:Nat):bT ⟨(Lib.decDigits n).toArray⟩=dL n:=rfl
theorem IZ {n:Nat} {c:UInt8} (h:c∈Lib.decDigits n):48≤c.toNat∧c.toNat≤57:=by
 have:=UM n (c.toNat:Int) (by unfold dL;exact List.mem_map.2 ⟨c,h,rfl⟩)
 omega
theorem aaS {m n:Nat} (h:Lib.decDigits m=Lib.decDigits n):m=n:=by
 have h1:=NP m
 have h2:=NP n
 have e:dL m=dL n:=by unfold dL;rw [h]
 rw [e,h2] at h1
 omega
theorem U0 {l:List UInt8} (h: ∀c∈l,Aj.contains c=false):Lib.trimS l Aj=l:=by
 unfold Lib.trimS Lib.trimLeftS Lib.trimRightS
 have key: ∀m:List UInt8,(∀c∈m,Aj.contains c=false)→m.dropWhile (Aj.contains ·)=m:=by
  intro m hm
  cases m with
  | nil=>rfl
  | cons a r=>rw [List.dropWhile_cons,if_neg (by rw [hm a (List.mem_cons_self ..)];decide)]
 rw [key l.reverse (fun c hc=>h c (List.mem_reverse.1 hc)),List.reverse_reverse,key l h]
theorem UK {c:UInt8} (h:45≤c.toNat):Aj.contains c=false:=by
 rw [zD]
 unfold bM
 simp
 omega
theorem LD (neg:Bool) (n:Nat) (hn:n≤9223372036854775807):pO neg (dL n)=(if neg=true then wrap64 (-(n:Int)) else (n:Int),0):=by
 obtain ⟨h1,h2,h3⟩:=Vf n hn [] Ends.nil
 rw [List.append_nil] at h1 h2 h3
 have hp:=D7 n
 unfold pO
 rw [if_neg (by omega),h3,if_neg (by decide),h2]
theorem NW {v:Int} (h:I64 v):numOf (gW v)=(v,0):=by
 unfold I64 at h
 have hne: ¬gW v=⟨#[]⟩:=by
  intro e
  have h1:(Lib.itoa v).length=0:=by
   have:=congrArg (fun x:ByteArray=>x.data.toList.length) e
   simpa [gW] using this
  unfold Lib.itoa at h1
  split at h1
  ·cases h1
  ·have h2:=D7 v.toNat
   unfold dL at h2
   rw [List.length_map] at h2
   omega
 have hid:Lib.trimS (gW v).data.toList Aj=(gW v).data.toList:=by
  refine U0 fun c hc=>?_
  have hc':c∈Lib.itoa v:=by simpa [gW] using hc
  unfold Lib.itoa at hc'
  split at hc'
  ·rcases List.mem_cons.1 hc' with rfl | hc'
   ·decide
   ·exact UK (by have:=IZ hc';omega)
  ·exact UK (by have:=IZ hc';omega)
 have e0:numOf (gW v)=JL (gW v):=by
  unfold numOf
  rw [if_neg hne,hid]
 rw [e0]
 unfold JL
 by_cases hm:v= -9223372036854775808
 ·subst hm
  exact if_pos xE
 have hnm: ¬gW v=minS:=by
  intro e
  have e1:(gW v).data.toList=(gW (-9223372036854775808)).data.toList:=by rw [e];exact (congrArg (fun x:ByteArray=>x.data.toList) xE).symm
  have e2:Lib.itoa v=Lib.itoa (-9223372036854775808):=by simpa [gW] using e1
  unfold Lib.itoa at e2
  rw [if_pos (show (-9223372036854775808:Int)<0 by decide)] at e2
  by_cases hv:v<0
  ·rw [if_pos hv] at e2
   have:=aaS (List.cons.inj e2).2
   omega
  ·rw [if_neg hv] at e2
   have:=IZ (n:=v.toNat) (c:=45) (by rw [e2];exact List.mem_cons_self ..)
   exact absurd this (by decide)
 rw [if_neg hnm]
 by_cases hv:v<0
 ·have ei:(gW v).data.toList=45::Lib.decDigits v.natAbs:=by
   show (Lib.itoa v).toArray.toList=_
   rw [List.toList_toArray]
   unfold Lib.itoa
   rw [if_pos hv]
  have hu:yA (gW v)=true:=by
   unfold yA Lib.hasPrefix
   rw [ei]
   simp [List.isPrefixOf]
  have hs:y9 (gW v)=⟨(Lib.decDigits v.natAbs).toArray⟩:=by
   unfold y9
   rw [if_pos hu,ei]
   unfold Lib.trimPrefix Lib.hasPrefix
   rw [if_pos (by simp [List.isPrefixOf])]
   rfl
  rw [hu,hs,UL,LD true v.natAbs (by omega),if_pos rfl]
  have e:(-(v.natAbs:Int))=v:=by omega
  rw [e]
  have ew:wrap64 v=v:=by unfold wrap64;omega
  rw [ew]
 ·have ei:(gW v).data.toList=Lib.decDigits v.toNat:=by
   show (Lib.itoa v).toArray.toList=_
   rw [List.toList_toArray]
   unfold Lib.itoa
   rw [if_neg hv]
  have hpre: ∀b:UInt8,b.toNat<48→Lib.hasPrefix (gW v).data.toList [b]=false:=by
   intro b hb
   rw [ei]
   unfold Lib.hasPrefix
   cases hd:Lib.decDigits v.toNat with
   | nil=>rfl
   | cons c r=>
    have:=IZ (n:=v.toNat) (c:=c) (by rw [hd];exact List.mem_cons_self ..)
    have hne:(b==c)=false:=by
     rw [beq_eq_false_iff_ne]
     rintro rfl
     omega
    simp [List.isPrefixOf,hne]
  have hu:yA (gW v)=false:=hpre 45 (by decide)
  have hs:y9 (gW v)=⟨(Lib.decDigits v.toNat).toArray⟩:=by
   unfold y9
   rw [hu,if_neg (by decide)]
   unfold Lib.trimPrefix
   rw [hpre 43 (by decide),if_neg (by decide),ei]
  rw [hu,hs,UL,LD false v.toNat (by omega),if_neg (by decide)]
  have e:((v.toNat:Nat):Int)=v:=by omega
  rw [e]
theorem aaK {l:Vl} (h:l.lS) {e:Asc} (he:kC e) (s:ByteArray):numOf (jB (iK e l) s)=match look e s with | some v=>(v,0) | none=>numOf (jB l s):=by
 unfold jB
 rw [rJ h s e]
 cases hl:look e s with
 | none=>rfl
 | some v=>exact NW (he.look hl)
def uM (e:Asc):Prop:= ∀x∈e,rF x.1=true∧x.1.size≤maxLen
theorem Ic {e:Asc} {s:ByteArray} {v:Int} (h:look e s=some v):(s,v)∈e:=by
 induction e with
 | nil=>cases h
 | cons y r ih=>
  obtain ⟨k,u⟩:=y
  simp only [look] at h
  by_cases c:k=s
  ·subst c;rw [if_pos rfl] at h;cases h;exact List.mem_cons_self ..
  ·rw [if_neg c] at h;exact List.mem_cons_of_mem _ (ih h)
theorem uM.look {e:Asc} (h:uM e) {s:ByteArray} {v:Int} (hl:look e s=some v):rF s=true∧s.size≤maxLen:=h _ (Ic hl)
theorem UG {s:ByteArray} (h:uo s):rF s=true:=by
 unfold rF
 rw [decide_eq_true h.1,decide_eq_true h.2]
 rfl
theorem uM.nil:uM []:=fun x hx=>by cases hx
theorem kC.nil:kC []:=fun x hx=>by cases hx
theorem uM.cons {e:Asc} (h:uM e) {s:ByteArray} (hs:uo s) (hl:s.size≤maxLen) (v:Int):uM ((s,v)::e):=by
 intro x hx
 rcases List.mem_cons.1 hx with rfl | hx
 ·exact ⟨UG hs,hl⟩
 ·exact h x hx
theorem vK (NV:ByteArray→Int × Nat): ∀(t:Tr) (e e':Asc) (v:Int),t.Ops→t.Fits→uM e→ev NV t e= .ok v e'→uM e'∧e'.length≤e.length+need t
 | .num n p,e,e',v,_,_,he,h=>by simp only [ev,Rv.ok.injEq] at h;rw [←h.2];exact ⟨he,by simp only [need];omega⟩
 | .name s p,e,e',v,_,_,he,h=>by rw [mX (show jZ NV s p e= .ok v e' from h)];exact ⟨he,by omega⟩
 | .un op p a,e,e',v,ho,hf,he,h=>by
  obtain ⟨u,e1,h1,h2⟩:=Rv.then_ok (show (ev NV a e).then (fun v e1=>ig op v e1)=_ from h)
  obtain ⟨i1,i2⟩:=vK NV a e e1 u ho.2 hf he h1
  rw [jG h2]
  exact ⟨i1,by simp only [need];omega⟩
 | .bin op p a b,e,e',v,ho,hf,he,h=>by
  obtain ⟨u,e1,h1,h2⟩:=Rv.then_ok (show (ev NV a e).then _=_ from h)
  obtain ⟨i1,i2⟩:=vK NV a e e1 u ho.2.1 hf.1 he h1
  by_cases c1:op=fV
  ·rw [if_pos c1] at h2
   by_cases c:u=0
   ·rw [if_pos c] at h2;simp only [Rv.ok.injEq] at h2;rw [←h2.2];exact ⟨i1,by simp only [need];omega⟩
   ·rw [if_neg c] at h2
    obtain ⟨x,e2,j1,j2⟩:=Rv.then_ok h2
    obtain ⟨k1,k2⟩:=vK NV b e1 e2 x ho.2.2 hf.2 i1 j1
    rw [jG j2];exact ⟨k1,by simp only [need];omega⟩
  ·rw [if_neg c1] at h2
   by_cases c2:op=jR
   ·rw [if_pos c2] at h2
    by_cases c:u=0
    ·rw [if_pos c] at h2
     obtain ⟨x,e2,j1,j2⟩:=Rv.then_ok h2
     obtain ⟨k1,k2⟩:=vK NV b e1 e2 x ho.2.2 hf.2 i1 j1
     rw [jG j2];exact ⟨k1,by simp only [need];omega⟩
    ·rw [if_neg c] at h2;simp only [Rv.ok.injEq] at h2;rw [←h2.2];exact ⟨i1,by simp only [need];omega⟩
   ·rw [if_neg c2] at h2
    obtain ⟨x,e2,j1,j2⟩:=Rv.then_ok h2
    obtain ⟨k1,k2⟩:=vK NV b e1 e2 x ho.2.2 hf.2 i1 j1
    rw [l9 j2];exact ⟨k1,by simp only [need];omega⟩
 | .cond op p a b c,e,e',v,ho,hf,he,h=>by
  obtain ⟨u,e1,h1,h2⟩:=Rv.then_ok (show (ev NV a e).then _=_ from h)
  obtain ⟨i1,i2⟩:=vK NV a e e1 u ho.2.1 hf.1 he h1
  by_cases c0:u=0
  ·rw [if_pos c0] at h2
   obtain ⟨k1,k2⟩:=vK NV c e1 e' v ho.2.2.2 hf.2.2 i1 h2
   exact ⟨k1,by simp only [need];omega⟩
  ·rw [if_neg c0] at h2
   obtain ⟨k1,k2⟩:=vK NV b e1 e' v ho.2.2.1 hf.2.1 i1 h2
   exact ⟨k1,by simp only [need];omega⟩
 | .eF op s p q a,e,e',v,ho,hf,he,h=>by
  by_cases h1:bF op=ak
  ·have hh:ev NV (.eF op s p q a) e=(ev NV a e).then fun v e1=> .ok v ((s,v)::e1):=by simp only [ev];rw [if_pos h1]
   rw [hh] at h
   obtain ⟨u,e1,j1,j2⟩:=Rv.then_ok h
   obtain ⟨i0,i1⟩:=vK NV a e e1 u ho.2.2.2 hf.2 he j1
   simp only [Rv.ok.injEq] at j2
   rw [←j2.2]
   exact ⟨i0.cons ho.2.2.1 hf.1 u,by simp only [need,List.length_cons];omega⟩
  ·have hh:ev NV (.eF op s p q a) e=(jZ NV s p e).then fun v e1=>(ev NV a e1).then fun u e2=>(gq (bF op) q v u e2).then fun x e3=> .ok x ((s,x)::e3):=by simp only [ev];rw [if_neg h1]
   rw [hh] at h
   obtain ⟨u,e1,j1,j2⟩:=Rv.then_ok h
   have hq:=mX j1
   subst hq
   obtain ⟨x,e2,k1,k2⟩:=Rv.then_ok j2
   obtain ⟨i0,i1⟩:=vK NV a _ e2 x ho.2.2.2 hf.2 he k1
   obtain ⟨y,e3,l1,l2⟩:=Rv.then_ok k2
   have hq:=l9 l1
   subst hq
   simp only [Rv.ok.injEq] at l2
   rw [←l2.2]
   exact ⟨i0.cons ho.2.2.1 hf.1 y,by simp only [need,List.length_cons];omega⟩
theorem oh (NV:ByteArray→Int × Nat): ∀(t:Tr) (e e':Asc) (v:Int),ev NV t e= .ok v e'→e'.length≤e.length+need t
 | .num n p,e,e',v,h=>by simp only [ev,Rv.ok.injEq] at h;rw [←h.2];omega
 | .name s p,e,e',v,h=>by rw [mX (show jZ NV s p e= .ok v e' from h)];omega
 | .un op p a,e,e',v,h=>by
  obtain ⟨u,e1,h1,h2⟩:=Rv.then_ok (show (ev NV a e).then (fun v e1=>ig op v e1)=_ from h)
  have:=oh NV a e e1 u h1
  rw [jG h2];simp only [need];omega
 | .bin op p a b,e,e',v,h=>by
  obtain ⟨u,e1,h1,h2⟩:=Rv.then_ok (show (ev NV a e).then _=_ from h)
  have i2:=oh NV a e e1 u h1
  by_cases c1:op=fV
  ·rw [if_pos c1] at h2
   by_cases c:u=0
   ·rw [if_pos c] at h2;simp only [Rv.ok.injEq] at h2;rw [←h2.2];simp only [need];omega
   ·rw [if_neg c] at h2
    obtain ⟨x,e2,j1,j2⟩:=Rv.then_ok h2
    have k2:=oh NV b e1 e2 x j1
    rw [jG j2];simp only [need];omega
  ·rw [if_neg c1] at h2
   by_cases c2:op=jR
   ·rw [if_pos c2] at h2
    by_cases c:u=0
    ·rw [if_pos c] at h2
     obtain ⟨x,e2,j1,j2⟩:=Rv.then_ok h2
     have k2:=oh NV b e1 e2 x j1
     rw [jG j2];simp only [need];omega
    ·rw [if_neg c] at h2;simp only [Rv.ok.injEq] at h2;rw [←h2.2];simp only [need];omega
   ·rw [if_neg c2] at h2
    obtain ⟨x,e2,j1,j2⟩:=Rv.then_ok h2
    have k2:=oh NV b e1 e2 x j1
    rw [l9 j2];simp only [need];omega
 | .cond op p a b c,e,e',v,h=>by
  obtain ⟨u,e1,h1,h2⟩:=Rv.then_ok (show (ev NV a e).then _=_ from h)
  have i2:=oh NV a e e1 u h1
  by_cases c0:u=0
  ·rw [if_pos c0] at h2
   have k2:=oh NV c e1 e' v h2
   simp only [need];omega
  ·rw [if_neg c0] at h2
   have k2:=oh NV b e1 e' v h2
   simp only [need];omega
 | .eF op s p q a,e,e',v,h=>by
  by_cases h1:bF op=ak
  ·have hh:ev NV (.eF op s p q a) e=(ev NV a e).then fun v e1=> .ok v ((s,v)::e1):=by simp only [ev];rw [if_pos h1]
   rw [hh] at h
   obtain ⟨u,e1,j1,j2⟩:=Rv.then_ok h
   have i1:=oh NV a e e1 u j1
   simp only [Rv.ok.injEq] at j2
   rw [←j2.2]
   simp only [need,List.length_cons];omega
  ·have hh:ev NV (.eF op s p q a) e=(jZ NV s p e).then fun v e1=>(ev NV a e1).then fun u e2=>(gq (bF op) q v u e2).then fun x e3=> .ok x ((s,x)::e3):=by simp only [ev];rw [if_neg h1]
   rw [hh] at h
   obtain ⟨u,e1,j1,j2⟩:=Rv.then_ok h
   have hq:=mX j1
   subst hq
   obtain ⟨x,e2,k1,k2⟩:=Rv.then_ok j2
   have i1:=oh NV a _ e2 x k1
   obtain ⟨y,e3,l1,l2⟩:=Rv.then_ok k2
   have hq:=l9 l1
   subst hq
   simp only [Rv.ok.injEq] at l2
   rw [←l2.2]
   simp only [need,List.length_cons];omega
end Go.Proofs.YtacfglopionkfaaGreatDoor
namespace Go.Proofs.YtacfglopionkfaaGreatDoor
set_option maxHeartbeats 8000000
set_option maxRecDepth 100000
open Go.RowKit Go.WideMaps Go.Maps
theorem CQ {w w':World} {k:TypeId} {R:Value→Option (DataW Unit × List MemPlace)} {b r n:Nat} {D:DataW Unit} {left:Lit→Bool} {cnt:Nat} (h:w.ranges Tryz.prog k R b r n D left cnt) (hb:w'.heap[b]? =w.heap[b]?) (hr:w'.heap[r]? =w.heap[r]?):w'.ranges Tryz.prog k R b r n D left cnt:=by
 obtain ⟨es,clock,since,seen,c0,h1,F,hs,hD,h2,rest⟩:=h
 exact ⟨es,clock,since,seen,c0,hb.trans h1,F,hs,hD,hr.trans h2,rest⟩
theorem KQ {w:World} {k:TypeId} {R:Value→Option (DataW Unit × List MemPlace)} {b n:Nat} {D:DataW Unit} (h:w.ownsMap Tryz.prog k R b n D):Maps.size D≤n:=by
 obtain ⟨es,clock,_,F,hs,rfl⟩:=h
 simpa [Maps.size,length_sorted] using hs
theorem KL.UF {x:ByteArray} {kl:Lit} (h:keyOf Tryz.prog 9 (.string x)=some kl):kl=KL x:=by
 have hk:Tryz.prog.underlying 9=some .string:=Tryz.underlying9
 simp [keyOf,hk,mapKey] at h
 unfold KL
 first | exact h.symm | exact h.2.symm | exact h.1.symm
theorem KL.same (s:ByteArray):(KL s).sameKey (KL s)=true:=WideAt.sameKey_self (show WideAt.IsKeyLit (KL s) from trivial)
theorem Rep.Qb {D:DataW Unit} {e:Asc} (h:Rep D e) {x:ByteArray} {y:DataW Unit} (hat: ∀zd,D.atKey (KL x) zd=y): ∃v,look e x=some v∧y= .lit (.int .i64 v):=by
 obtain ⟨h1,h2⟩:=h x
 cases hl:look e x with
 | some v=>exact ⟨v,rfl,(hat (.lit (.bool true))).symm.trans (h2 v hl _)⟩
 | none=>
  rw [hl] at h1
  have hh:Maps.has D (KL x)=false:=h1
  have e1:=hat (.lit (.bool true))
  have e2:=hat (.lit (.bool false))
  rw [atKey_of_not_has hh] at e1 e2
  rw [←e1] at e2
  cases e2
structure Np (vb mp N:Nat) (mo:Option Nat) (l:Vl) (e:Asc) (D:DataW Unit) (X:World) (lr:Lit→Bool) (cr:Nat) (lv:Lit→Bool) (cv:Nat) (Y:World):Prop where
 rg:Y.ranges Tryz.prog 9 (plainElem (H:=Unit) Tryz.prog 2) mp X.heap.size e.length D lr cr
 va: ∃jq N' L',aZ Y vb jq N' L'∧N'+cv≤N+e.length∧(jq=mo∨(mo=none∧ ∃b,jq=some b∧X.heap.size<b))∧ ∀s,dX L' s=if Maps.has D (KL s)=true∧lv (KL s)=false then (look e s).map gW else dX l s
 bu:But (VB vb mo) X Y
theorem Np.below {vb mp N:Nat} {mo:Option Nat} {l:Vl} {e:Asc} {D:DataW Unit} {X:World} {lr lv:Lit→Bool} {cr cv:Nat} {Y Y':World} (h:Np vb mp N mo l e D X lr cr lv cv Y) (hb:Below Y.heap.size Y Y'):Np vb mp N mo l e D X lr cr lv cv Y' where
 rg:=h.rg.kept (oZ hb) (by simp) (by simp)
 va:=by
  obtain ⟨jq,N',L',h1,h2⟩:=h.va
  exact ⟨jq,N',L',h1.below hb,h2⟩
 bu:=h.bu.trans (But.of_below (P:=VB vb mo) hb) (fun _ _ k=>k) (fun _ _ k=>k)
theorem UH {vb mp N:Nat} {mo:Option Nat} {l:Vl} {e:Asc} {D:DataW Unit} {X:World} {lr lv:Lit→Bool} {cr cv c2:Nat} {Y:World} {x:ByteArray} {v:Int} (h:Np vb mp N mo l e D X lr cr lv cv Y)
  (hvb:vb<X.heap.size) (hmo: ∀b,mo=some b→b<X.heap.size∧b≠mp) (hmp:mp<X.heap.size∧mp≠vb) (hN:N+e.length≤maxLen) (hx:look e x=some v) (hd:Maps.has D (KL x)=true) (hnm:rF x=true) (hsz:x.size≤maxLen) (hc:c2<cv):
  Calls Tryz.prog 17 #[.pointer (some ⟨vb,0,none⟩),.string x,.string (gW v)] Y fun ex w'=>ex= .returned (.bool true)∧Np vb mp N mo l e D X lr cr (fun z=>lv z && !z.sameKey (KL x)) c2 w':=by
 obtain ⟨jq,N',L',h1,h2,h3,h4⟩:=h.va
 refine (set_any vb N' jq L' x (gW v) Y h1 (by omega) hsz).mono ?_
 rintro ex w' ⟨rfl,⟨mo2,g1,g2⟩,hb⟩
 rw [if_pos hnm] at g2
 have hrl:=h.rg.lt
 have hml:mp<Y.heap.size:=h.rg.owns.lt
 have hnot: ∀k,k<Y.heap.size→k≠vb→some k≠jq→w'.heap[k]? =Y.heap[k]? :=fun k hk h1 h2=>hb.block k hk (fun q=>q.elim h1 h2)
 have Tf: ∀b,jq=some b→b≠mp∧b≠X.heap.size∧(mo=some b∨X.heap.size<b):=by
  intro b e
  rcases h3 with rfl | ⟨_,b',e',hlt⟩
  ·have:=hmo b e
   exact ⟨this.2,by omega,Or.inl e⟩
  ·rw [e'] at e
   have:=Option.some.inj e
   exact ⟨by omega,by omega,Or.inr (by omega)⟩
 refine ⟨by rw [hnm],⟨CQ h.rg (hnot mp hml hmp.2 (fun e=>(Tf mp e.symm).1 rfl)) (hnot _ hrl (by omega) (fun e=>(Tf _ e.symm).2.1 rfl)),⟨mo2,N'+1,_,g2,by omega,?_,fun s=>?_⟩,?_⟩⟩
 ·rcases g1 with rfl | ⟨e1,b,e2,hlt⟩
  ·exact h3
  ·rcases h3 with rfl | ⟨e3,b',e',_⟩
   ·exact Or.inr ⟨e1,b,e2,by omega⟩
   ·rw [e'] at e1;cases e1
 ·rw [wH h1.F9,h4 s]
  by_cases c:x=s
  ·subst c
   rw [if_pos rfl,if_pos ⟨hd,by rw [KL.same];simp⟩,hx]
   rfl
  ·rw [if_neg c]
   have:(KL s).sameKey (KL x)=false:=sameKey_ne (fun h=>c (KL.inj h).symm)
   simp only [this,Bool.not_false,Bool.and_true]
 ·refine h.bu.trans hb (fun _ _ k=>k) (fun i hi q=>?_)
  rcases q with q | q
  ·exact Or.inl q
  ·rcases (Tf i q.symm).2.2 with e | e
   ·exact Or.inr e.symm
   ·omega
theorem Ig (B mb mp vb N:Nat) (mo:Option Nat) (l:Vl) (w0 X:World) (m:Ms) (s:Nat) (h:bf B mb mp (some ⟨vb,0,none⟩) w0 m s X) (hva:aZ X vb mo N l) (hvb:vb<B) (hmo: ∀b,mo=some b→b<B) (hI:kC m.se) (hNm:uM m.se) (hN:N+m.se.length≤maxLen) (htp: ∀Y,But (VB vb mo) X Y→TP Y):
  Calls Tryz.prog 65 #[.pointer (some ⟨mb,0,none⟩)] X fun e w'=>e= .returned (.tuple #[])∧bf B mb mp (some ⟨vb,0,none⟩) w' m s w'∧But (VB vb mo) X w'∧ ∃jq N',aZ w' vb jq N' (iK m.se l)∧N'≤N+m.se.length∧(jq=mo∨(mo=none∧ ∃b,jq=some b∧X.heap.size≤b)):=by
 have HR:=Lib.hid h
 obtain ⟨D,hown,hrep⟩:=h.se
 have AY:=Lib.hid htp
 have DT:=Lib.hid hrep
 have HI:=Lib.hid hI
 have xk:=Lib.hid hNm
 have hsz:=h.size
 obtain ⟨st,hm,_⟩:=h.ma
 have c0:=hm.vs
 have c1:=hm.ms
 have Du:=hm.lt
 have hlo:=h.lo
 have hmpl:mp<X.heap.size:=hown.lt
 have HP:Hid (vb<X.heap.size∧(∀b,mo=some b→b<X.heap.size∧b≠mp)∧mp<X.heap.size∧mp≠vb):=Lib.hid ⟨by omega,fun b e=>by have:=hmo b e;exact ⟨by omega,by omega⟩,by omega,by omega⟩
 have HMB:Hid (mb<X.heap.size∧ ¬VB vb mo mb):=Lib.hid ⟨Du,fun q=>q.elim (fun e=>by omega) (fun e=>by have:=hmo mb e.symm;omega)⟩
 have HMP:Hid (¬VB vb mo mp):=Lib.hid (fun q=>q.elim (fun e=>by omega) (fun e=>by have:=hmo mp e.symm;omega))
 have HNN:Hid (N+m.se.length≤maxLen):=Lib.hid hN
 have HSD:Hid (Maps.size D≤m.se.length):=Lib.hid (KQ hown)
 have Gg:=Lib.hid hva
 have Nu:Hid (∀Y,But (VB vb mo) X Y→Y.cell? ⟨mb,0,none⟩=some (.pointer (some ⟨vb,0,none⟩))):=Lib.hid (fun Y hY=>by rw [World.cell?_of_block (w:=X) (hY.block mb Du HMB.out.2)];exact c0)
 clear h hrep htp hm hva hvb hmo hI hNm hN hsz hlo hmpl Du
 go_enter Tryz.func65,Tryz.ntmps65
 go_wp2_with (first | (at_range;refine wpList_range_own _ rfl _ 118 rfl 9 2 rM Tryz.underlying118 _ mp _ _ rfl hown ?_;intro w1 hrg hg hs))
 go_frame
 have hbl:Below X.heap.size X w1:=(Below.refl _ _).grown hg (Nat.le_refl _) (fun k hk=>by cases hk)
 have HI0:Hid (Np vb mp N mo l m.se D X (Maps.has D) (Maps.size D) (Maps.has D) (Maps.size D) w1):=Lib.hid ⟨hrg,⟨mo,N,l,Gg.out.below hbl,by have:=HSD.out;omega,Or.inl rfl,fun s=>(by rw [if_neg (by rintro ⟨e1,e2⟩;rw [e1] at e2;cases e2)])⟩,But.of_below hbl⟩
 clear hrg hg hbl hown c1 c0 hs
 go_loopw [2] (fun _ wr=> ∃(left:Lit→Bool) (cnt:Nat),Np vb mp N mo l m.se D X left cnt left cnt wr) (fun _ wr=>wr.rangeLeft mp X.heap.size)
 case atStart=>exact ⟨_,_,HI0.out⟩
 case round=>
  obtain ⟨left,cnt,hki⟩:=hrel
  have WJ:=Lib.hid hki
  have hrg:=hki.rg
  clear hki HI0
  go_wp2_with (first | (at_next;refine wpList_next_ranges _ rfl _ rfl 9 rM (plainElem (H:=Unit) Tryz.prog 2) Value.string (Value.int .i64) (fun key kl hk=>?_) (fun u y hu=>?_) mp X.heap.size m.se.length D left cnt rfl hrg ?_ ?_))
  ·exact BZ hk
  ·obtain ⟨c,rfl,_⟩:=plainElem_int_inv Tryz.underlying2 hu
   exact ⟨c,rfl⟩
  ·intro hc0 hl0
   have HF:Hid (bf B mb mp (some ⟨vb,0,none⟩) wr m s wr∧But (VB vb mo) X wr∧ ∃jq N',aZ wr vb jq N' (iK m.se l)∧N'≤N+m.se.length∧(jq=mo∨(mo=none∧ ∃b,jq=some b∧X.heap.size≤b))):=Lib.hid (by
    have hbu:=WJ.out.bu
    refine ⟨⟨HR.out.ma.same (hbu.block mb HMB.out.1 HMB.out.2),HR.out.se.same (hbu.block mp HP.out.2.2.1 HMP.out),Below.refl _ _,HR.out.lo⟩,hbu,?_⟩
    obtain ⟨jq,N',L',h1,h2,h3,h4⟩:=WJ.out.va
    have hL:L'=iK m.se l:=Cm h1.F9 (uO Gg.out.F9 _) (fun s=>by
     rw [h4 s,rJ Gg.out.F9,hl0,(DT.out s).1]
     cases look m.se s with
     | none=>simp
     | some v=>simp)
    rw [hL] at h1
    refine ⟨jq,N',h1,by omega,?_⟩
    rcases h3 with h3 | ⟨h3,b,h5,h6⟩
    ·exact Or.inl h3
    ·exact Or.inr ⟨h3,b,h5,by omega⟩)
   clear WJ hrg hc0 hl0
   go_wp2_with fail
   go_end0
   exact ⟨rfl,HF.out⟩
  ·intro x c kl yd yp w2 cnt2 hkey hlk YD hat hrg2 hlt hg2 hs2 hen
   obtain rfl:=KL.UF hkey
   obtain ⟨c',ec,VJ,hwc⟩:=plainElem_int_inv Tryz.underlying2 YD
   obtain rfl:c=c':=by injection ec
   obtain ⟨v,hlx,hyv⟩:=DT.out.Qb hat
   have hvc:v=c:=by
    first
     | (rw [hyv] at VJ;injection VJ with q1 q2;injection q1 with q3;injection q3 with q4 q5)
     | (rw [hyv] at VJ;simpa using VJ)
     | (subst hyv;simpa using VJ)
   subst hvc
   obtain ⟨hc0,hc1⟩:=HI.out.look hlx
   have Za:rF x=true∧x.size≤maxLen:=xk.out.look hlx
   have hdx:Maps.has D (KL x)=true:=by rw [(DT.out x).1,hlx];rfl
   have fD:Hid (Np vb mp N mo l m.se D X (fun z=>left z && !z.sameKey (KL x)) cnt2 left cnt w2):=Lib.hid ⟨hrg2,by
    obtain ⟨jq,N',L',h1,h2,h3,h4⟩:=WJ.out.va
    refine ⟨jq,N',L',h1.same (hg2.block vb h1.lt (fun e=>?_)) (fun b e=>hg2.block b (h1.VI e) (fun e'=>?_)),h2,h3,h4⟩
    ·have:=Option.some.inj e
     have:=HP.out.1
     omega
    ·have e2:=Option.some.inj e'
     rcases h3 with rfl | ⟨_,b',e3,hlt'⟩
     ·have:=(HP.out.2.1 b e).1;omega
     ·rw [e3] at e;have:=Option.some.inj e;omega,WJ.out.bu.grown hg2 (fun k hk hlt=>by have:=Option.some.inj hk;omega)⟩
   have Bj:Hid (∀Y,But (VB vb mo) X Y→Calls Tryz.prog 99 #[.int .i64 v] Y fun e w'=>e= .returned (.string (gW v))∧Below Y.heap.size Y w'):=Lib.hid (fun Y hY=>qL v Y hc0 hc1 (AY.out Y hY))
   have HLT:Hid (cnt2<cnt):=Lib.hid hlt
   have Jl:Hid (wr.rangeLeft mp X.heap.size=cnt):=Lib.hid hrg.left_eq
   have HLX:=Lib.hid hlx
   have HDX:=Lib.hid hdx
   have SG:=Lib.hid Za
   clear hkey hlk YD hat hrg2 hlt hg2 hs2 VJ hwc ec hrg hc0 hc1 Za hdx hlx WJ hyv
   go_wp2_with fail
   refine Reg.aJ (fun Lq _ Y=>(Lq 7=false→Np vb mp N mo l m.se D X (fun z=>left z && !z.sameKey (KL x)) cnt2 left cnt Y)∧(Lq 7=true→Np vb mp N mo l m.se D X (fun z=>left z && !z.sameKey (KL x)) cnt2 (fun z=>left z && !z.sameKey (KL x)) cnt2 Y)) (fun j=>([some (.pointer (some ⟨mb,0,none⟩)),some (.pointer (some ⟨mb,0,none⟩)),some (.pointer (some ⟨mb,0,none⟩)),some (.pointer (some ⟨vb,0,none⟩)),some (.string x),some (.int .i64 v),some (.string (gW v)),some (.bool true)]:List (Option Value)).getD j none) (by kernel_rfl) (by kernel_rfl) (by kernel_rfl) (by kernel_rfl) ?iY ?rsE ?iW
   case iY=>exact ⟨fun _=>fD.out.below (Below.refl _ _).drew,fun h=>(by cases h)⟩
   case rsE=>
    refine Reg.au.plain rfl (fun L u T Y hL hz hS hk K hK=>?_) ?_
    ·have g0:=hk.old 0 rfl
     have hK:=hK _ Y hS (fun _ hx=>Option.some.inj hx)
     clear hk hz hL
     go_simp
     exact hK
    refine Reg.au.plain rfl (fun L u T Y hL hz hS hk K hK=>?_) ?_
    ·have g14:=hk.val 0 14 rfl
     have hP:=hS.1 (hz 7 (by kernel_rfl))
     have c0:=Nu.out Y hP.bu
     have hK:=hK _ Y hS (fun _ hx=>Option.some.inj hx)
     clear hk hz hL hS hP
     go_simp
     exact hK
    refine Reg.au.plain rfl (fun L u T Y hL hz hS hk K hK=>?_) ?_
    ·have g15:=hk.val 1 15 rfl
     have hP:=hS.1 (hz 7 (by kernel_rfl))
     have c0:=Nu.out Y hP.bu
     have hml:=nZ c0
     have hK:=hK _ Y hS (fun _ hx=>Option.some.inj hx)
     clear hk hz hL hS hP
     go_simp
     exact hK
    refine Reg.au.plain rfl (fun L u T Y hL hz hS hk K hK=>?_) ?_
    ·have g16:=hk.val 2 16 rfl
     have hP:=hS.1 (hz 7 (by kernel_rfl))
     have c0:=Nu.out Y hP.bu
     have hK:=hK _ Y hS (fun _ hx=>Option.some.inj hx)
     clear hk hz hL hS hP
     go_simp
     exact hK
    refine Reg.au.plain rfl (fun L u T Y hL hz hS hk K hK=>?_) ?_
    ·have g2:=hk.old 2 rfl
     have hK:=hK _ Y hS (fun _ hx=>Option.some.inj hx)
     clear hk hz hL
     go_simp
     exact hK
    refine Reg.au.plain rfl (fun L u T Y hL hz hS hk K hK=>?_) ?_
    ·have g3:=hk.old 3 rfl
     have hK:=hK _ Y hS (fun _ hx=>Option.some.inj hx)
     clear hk hz hL
     go_simp
     exact hK
    refine Reg.au.plain rfl (fun L u T Y hL hz hS hk K hK=>?_) ?_
    ·have g19:=hk.val 5 19 rfl
     have hP:=hS.1 (hz 7 (by kernel_rfl))
     have h7:=hz 7 (by kernel_rfl)
     clear hk hz
     go_simp
     refine (Bj.out Y hP.bu).mono ?_
     rintro e w' ⟨rfl,hb⟩
     exact hK _ w' ⟨fun _=>hP.below hb,fun h=>(by rw [Reg.upd_ne _ _ (by decide),h7] at h;cases h)⟩ (fun _ hx=>Option.some.inj hx)
    refine Reg.au.plain rfl (fun L u T Y hL hz hS hk K hK=>?_) ?_
    ·have g17:=hk.val 3 17 rfl
     have g18:=hk.val 4 18 rfl
     have g20:=hk.val 6 20 rfl
     have hP:=hS.1 hL
     clear hk hz
     go_simp
     refine (UH hP HP.out.1 HP.out.2.1 HP.out.2.2 HNN.out HLX.out HDX.out SG.out.1 SG.out.2 HLT.out).mono ?_
     rintro e w' ⟨rfl,h'⟩
     exact hK _ w' ⟨fun h=>(by rw [Reg.upd_same] at h;cases h),fun _=>h'⟩ (fun _ hx=>Option.some.inj hx)
    exact Reg.au.nil
   case iW=>
    intro L u w5 hL hS hI
    have e0:=hI 0 (by decide) _ rfl
    have e1:=hI 1 (by decide) _ rfl
    have e2:=hI 2 (by decide) _ rfl
    have e3:=hI 3 (by decide) _ rfl
    have e4:=hI 4 (by decide) _ rfl
    have e5:=hI 5 (by decide) _ rfl
    have e6:=hI 6 (by decide) _ rfl
    have e7:=hI 7 (by decide) _ rfl
    clear hI
    simp only [Reg.aK,Act.put,List.setIfInBounds_toArray,List.set_cons_succ,List.set_cons_zero,Nat.zero_add,Nat.reduceAdd,e0,e1,e2,e3,e4,e5,e6,e7]
    clear e0 e1 e2 e3 e4 e5 e6 e7
    have hfin:=hS.2 (hL 7 (by decide))
    have dZ:=Lib.hid hfin
    clear hfin hS hL
    go_wp2_with fail
    go_roundw
    case rel=>exact ⟨_,cnt2,dZ.out⟩
    case measure=>rw [dZ.out.rg.left_eq,Jl.out];exact HLT.out
end Go.Proofs.YtacfglopionkfaaGreatDoor
namespace Go.Proofs.YtacfglopionkfaaGreatDoor
set_option maxHeartbeats 8000000
set_option maxRecDepth 100000
open Go.RowKit Go.WideMaps Go.Maps
def Nk:Rv→Vl→Vl
 | .ok _ e,l=>iK e l
 | .bad _ _,l=>l
 | .no,l=>l
structure ZX (w:World) (vb N:Nat) (mo:Option Nat) (l:Vl) (sn:Nat→Addr) (rv:Rv) (e:Ending) (w':World):Prop where
 val:Ol sn rv e w'
 bu:But (VB vb mo) w w'
 va: ∃jq N',aZ w' vb jq N' (Nk rv l)∧N'≤N+2000∧(jq=mo∨(mo=none∧ ∃b,jq=some b∧w.heap.size≤b))
theorem KW (c:Nat) (t:Tr) (vb N:Nat) (mo:Option Nat) (l:Vl) (w:World) (sn:Nat→Addr) (hc:jW w c (comp t 0)) (hva:aZ w vb mo N l) (hz: ∀x∈l,x.2.size≤9223372036854775807) (hsn:Er w sn) (htp: ∀Y,But (VB vb mo) w Y→TP Y)
  (hfit:t.Fits) (hops:t.Ops) (tJ:need t≤1024) (hlen:(comp t 0).length≤900000) (hN:N≤1000000) (rv:Rv) (hev:ev (fun n=>numOf (jB l n)) t []=rv):
  Calls Tryz.prog 30 #[.pointer (some ⟨c,0,none⟩),.pointer (some ⟨vb,0,none⟩)] w fun e w'=>ZX w vb N mo l sn rv e w':=by
 have hE:=Nc vb N mo l w hva hz (htp w (But.refl _ _))
 have hno:rv≠ .no:=by rw [←hev];exact lD _ t [] hops
 have Gm:=Lib.hid (xW c _ w hc (mD t 0))
 have xk:=Lib.hid (nM (some ⟨vb,0,none⟩) w)
 obtain ⟨g,cap,cur,hcode,hcap,hgl,hg,hat⟩:=hc.parts (mD t 0)
 obtain ⟨f,hrun,hf⟩: ∃f,(∃r,runs (fun n=>numOf (jB l n)) (comp t 0) r ⟨0,[],[]⟩=some f)∧((∃x e,rv= .ok x e∧f= .go ⟨(comp t 0).length,[x],e⟩)∨ ∃a p,rv= .bad a p∧f= .bad a p):=by
  cases rv with
  | ok x e=>exact ⟨_,Dv tJ hev,Or.inl ⟨x,e,rfl,rfl⟩⟩
  | bad a p=>exact ⟨_,zQ tJ hev,Or.inr ⟨a,p,rfl,rfl⟩⟩
  | no=>exact absurd rfl hno
 have xK:Hid (∀x e,rv= .ok x e→kC e∧uM e∧e.length≤1024):=Lib.hid (fun x e h=>by
  rw [h] at hev
  obtain ⟨i1,i2⟩:=vK _ t [] e x hops hfit uM.nil hev
  exact ⟨(qY _ (fun n=>(jc _).1) t [] e x hfit kC.nil hev).2,i1,by simp only [List.length_nil] at i2;omega⟩)
 obtain ⟨r,hr⟩:=hrun
 have JD:Hid (∀X,bf w.heap.size (w.heap.size+1) w.heap.size (some ⟨vb,0,none⟩) w ⟨0,[],[]⟩ 0 X→Calls Tryz.prog 63 #[.pointer (some ⟨w.heap.size+1,0,none⟩),.slice (some ⟨g,0,none⟩) (comp t 0).length cap] X fun e w'=>NM w.heap.size (w.heap.size+1) w.heap.size (some ⟨vb,0,none⟩) w sn (comp t 0).length f e w'):=Lib.hid (fun X hX=>
  run_any w.heap.size (w.heap.size+1) w.heap.size (some ⟨vb,0,none⟩) w X (jB l) (fun n=>numOf (jB l n)) sn hE (fun Y hY=>hsn.below hY) (comp t 0) _ ⟨g,cap,cur,rfl,hcap,hgl,hg,hat⟩ (dH t 0 hfit) hlen r _ f 0 ⟨hr,hX,⟨fun x hx=>by simp at hx,by simp,Nat.le_refl _⟩,Nat.le_refl _⟩)
 have AY:=Lib.hid htp
 have HF:=Lib.hid hf
 have Gg:=Lib.hid hva
 have HN:=Lib.hid hN
 have Yw:=Lib.hid hcode
 have hn0: ¬(comp t 0).length=0:=fun e=>mD t 0 (List.length_eq_zero_iff.1 e)
 clear hc hE hsn htp hfit hops tJ hev hno hcode hat hg hr hf hlen hva hz hN
 generalize (comp t 0).length=len at*
 have hne:decide ((len:Int)=0)=false:=decide_eq_false (by omega)
 have hne2:decide (len=0)=false:=decide_eq_false hn0
 go_enter Tryz.func30,Tryz.ntmps30
 go_wp2_with fail
 refine Gm.out.mono ?_
 rintro e w0 ⟨rfl,rfl⟩
 go_wp2_with fail
 refine xk.out.mono ?_
 rintro e w1 ⟨rfl,hr1⟩
 have HR1:=Lib.hid hr1
 obtain ⟨c0,_,hz⟩:=bU (jg Yw.out hr1.ch)
 clear hr1
 go_wp2_with fail
 refine (JD.out w1 HR1.out).mono ?_
 intro e w2 hq
 clear c0 hz
 rcases HF.out with ⟨x,e',rC,rfl⟩ | ⟨a,p,rC,rfl⟩
 ·obtain ⟨rfl,⟨s,hr2⟩,hm2,_⟩:=hq
  obtain ⟨v1,v2,v3⟩:=xK.out x e' rC
  have hb2:But (VB vb mo) w w2:=But.of_below hr2.ch
  have JG:Hid (Calls Tryz.prog 65 #[.pointer (some ⟨w.heap.size+1,0,none⟩)] w2 fun e w'=>e= .returned (.tuple #[])∧bf w.heap.size (w.heap.size+1) w.heap.size (some ⟨vb,0,none⟩) w' ⟨len,[x],e'⟩ s w'∧But (VB vb mo) w2 w'∧ ∃jq N',aZ w' vb jq N' (iK e' l)∧N'≤N+e'.length∧(jq=mo∨(mo=none∧ ∃b,jq=some b∧w2.heap.size≤b))):=Lib.hid
   (Ig _ _ _ vb N mo l w w2 _ s hr2 (Gg.out.below hr2.ch) Gg.out.lt (fun b e=>Gg.out.VI e) v1 v2 (by have:=HN.out;unfold maxLen;simp only;omega) (fun Y hY=>AY.out Y (hb2.trans hY (fun _ _ k=>k) (fun _ _ k=>k))))
  have SC:=Lib.hid rC
  have HB2:=Lib.hid hb2
  have Jl:=Lib.hid v3
  have HM2:Hid (w.heap.size+1<w2.heap.size):=Lib.hid hr2.ma.lt
  clear hr2 hm2 rC v1 v2 v3 hb2
  go_wp2_with fail
  refine JG.out.mono ?_
  rintro e w3 ⟨rfl,hr3,hb3,YU⟩
  have HR3:=Lib.hid hr3
  have HB3:=Lib.hid hb3
  have Nr:=Lib.hid YU
  clear hr3 hb3 YU
  go_wp2_with fail
  refine (tC _ _ _ (some ⟨vb,0,none⟩) w3 _ x [] e' s w3 HR3.out (by simp)).mono ?_
  rintro e w4 ⟨rfl,_,hc4⟩
  have Aq:=Lib.hid hc4
  clear hc4
  go_wp2_with fail
  go_ret2
  rw [SC.out]
  have hvl:=Gg.out.lt
  refine ⟨rfl,?_,?_⟩
  ·refine (HB2.out.trans HB3.out (R:=VB vb mo) (fun _ _ k=>k) (fun _ _ k=>k)).trans (Q:=fun i=>i=w.heap.size+1) ⟨Aq.out.1.os,Aq.out.1.tape,Aq.out.1.output,Aq.out.1.size,fun i hi hn=>Aq.out.2 i hi hn⟩ (fun _ _ k=>k) (fun i hi q=>by omega)
  ·obtain ⟨jq,N',h1,h2,h3⟩:=Nr.out
   refine ⟨jq,N',h1.same (Aq.out.2 vb h1.lt (by omega)) (fun b e=>Aq.out.2 b (h1.VI e) ?_),by have:=Jl.out;omega,?_⟩
   ·rcases h3 with rfl | ⟨_,b',e',hlt⟩
    ·have:=Gg.out.VI e;omega
    ·rw [e'] at e;have:=Option.some.inj e;have:=HM2.out;omega
   ·rcases h3 with h3 | ⟨h3,b',e',hlt⟩
    ·exact Or.inl h3
    ·exact Or.inr ⟨h3,b',e',by have:=HB2.out.size;omega⟩
 ·obtain ⟨pv,rfl,her,hb⟩:=hq
  have DC:=Lib.hid her
  have HB:=Lib.hid hb
  have SC:=Lib.hid rC
  clear her hb rC
  go_wp2_with fail
  go_ret2
  rw [SC.out]
  exact ⟨⟨pv,rfl,DC.out⟩,But.of_below HB.out,mo,N,Gg.out.below HB.out,by omega,Or.inl rfl⟩
end Go.Proofs.YtacfglopionkfaaGreatDoor
namespace Go.Proofs.YtacfglopionkfaaGreatDoor
set_option maxHeartbeats 8000000
set_option maxRecDepth 100000
open Go.RowKit
def xM (d:Nat):Int:=if d<10 then 48+d else 87+d
def iH (b n:Nat):List Int:=if _h:b<2∨n<b then [xM n] else iH b (n / b)++[xM (n % b)]
termination_by n
decreasing_by exact Nat.div_lt_self (by omega) (by omega)
theorem oV (b n:Nat) (h:n<b):iH b n=[xM n]:=by rw [iH,dif_pos (Or.inr h)]
theorem qP (b n:Nat) (hb:2≤b) (h:b≤n):iH b n=iH b (n / b)++[xM (n % b)]:=by rw [iH,dif_neg (by omega)]
theorem qy (b:Nat) (hb:2≤b): ∀(k n:Nat),1≤k→n<b ^ k→(iH b n).length≤k
 | 0,_,h,_=>absurd h (by omega)
 | k+1,n,_,h=>by
  by_cases hn:n<b
  ·rw [oV _ _ hn];simp
  ·rw [qP _ _ hb (by omega),List.length_append]
   have hk:1≤k:=by
    rcases Nat.eq_zero_or_pos k with h0 | h0
    ·subst h0;simp at h;omega
    ·exact h0
   have:=qy b hb k (n / b) hk (by rw [Nat.div_lt_iff_lt_mul (by omega)];rw [Nat.pow_succ] at h;exact h)
   simp
   exact this
theorem Ce (s t:ByteArray):bT (s++t)=bT s++bT t:=by
 unfold bT
 rw [show (s++t).data=s.data++t.data from ByteArray.data_append]
 simp
theorem y8 (b q:Nat) (hb:2≤b):iH b q=(if q / b=0 then [] else iH b (q / b))++[xM (q % b)]:=by
 by_cases hq:q<b
 ·have h0:q / b=0:=Nat.div_eq_of_lt hq
  rw [if_pos h0,Nat.mod_eq_of_lt hq,oV _ _ hq]
  rfl
 ·have h0:q / b≠0:=by
   have:1≤q / b:=(Nat.le_div_iff_mul_le (by omega)).2 (by omega)
   omega
  rw [if_neg h0,qP b q hb (by omega)]
theorem uY (u:Nat):dL u=iH 10 u:=by
 induction u using Nat.strongRecOn with
 | _ u ih=>
  by_cases h:u<10
  ·rw [sQ h,oV _ _ h]
   have e:xM u=48+u:=by unfold xM;rw [if_pos h]
   rw [e]
  ·rw [xA h,qP 10 u (by omega) (by omega),ih (u / 10) (by omega)]
   have hm:u % 10<10:=Nat.mod_lt _ (by omega)
   have e:xM (u % 10)=48+(u % 10:Nat):=by unfold xM;rw [if_pos hm]
   rw [e]
theorem MF {s t:ByteArray} (h:bT s=bT t):s=t:=by
 have h1:=congrArg (List.map fun n:Int=>UInt8.ofNat n.toNat) h
 rw [qo,qo] at h1
 obtain ⟨⟨s⟩⟩:=s
 obtain ⟨⟨t⟩⟩:=t
 simpa using h1
def textU (n:Int):List Int:=if n<0 then 45::iH 10 n.natAbs else iH 10 n.toNat
theorem MB (n:Int):bT (gW n)=textU n:=by
 unfold gW Lib.itoa textU
 by_cases h:n<0
 ·rw [if_pos h,if_pos h, ←uY]
  unfold bT dL
  simp
 ·rw [if_neg h,if_neg h, ←uY]
  unfold bT dL
  simp
theorem YS (d:Nat) (h:d<16):bT ((⟨#[48,49,50,51,52,53,54,55,56,57,97,98,99,100,101,102]⟩:ByteArray).extract d (d+1))=[xM d]:=by
 rcases (by omega:d=0∨d=1∨d=2∨d=3∨d=4∨d=5∨d=6∨d=7∨d=8∨d=9∨d=10∨d=11∨d=12∨d=13∨d=14∨d=15) with rfl | rfl | rfl | rfl | rfl | rfl | rfl | rfl | rfl | rfl | rfl | rfl | rfl | rfl | rfl | rfl<;>rfl
set_option maxHeartbeats 4000000 in
theorem BK (n b:Nat) (w:World) (hb:2≤b) (hb2:b≤16) (hn:n<18446744073709551616):
  Calls Tryz.prog 68 #[.int .u64 n,.int .i64 b,.bool false] w fun e w'=> ∃t,e= .returned (.string t)∧bT t=iH b n∧Below w.heap.size w w':=by
 have hbI:(2:Int)≤b:=by omega
 have hbI2:(b:Int)≤16:=by omega
 have hwb:IntKind.u64.wrap (b:Int)=b:=by
  unfold IntKind.wrap
  simp [IntKind.signed,IntKind.bits]
  omega
 have hb0: ¬(b:Int)=0:=by omega
 have hbp:0<(b:Int):=by omega
 have Rn:=Int.emod_nonneg (n:Int) (show (b:Int)≠0 by omega)
 have Rl:=Int.emod_lt_of_pos (n:Int) hbp
 have Rk:(n:Int) % b<16:=by omega
 have hnI:(n:Int)≤18446744073709551615:=by omega
 have HLEN:=Lib.hid (qy b hb 64 n (by omega) (Nat.lt_of_lt_of_le hn (Nat.le_trans (by decide) (Nat.pow_le_pow_left hb 64))))
 have fD:Hid ((if n / b=0 then [] else iH b (n / b))++bT ((⟨#[48,49,50,51,52,53,54,55,56,57,97,98,99,100,101,102]⟩:ByteArray).extract (n % b) (n % b+1))=iH b n):=Lib.hid (by rw [YS _ (by have:=Nat.mod_lt n (show b>0 by omega);omega)];exact (y8 b n hb).symm)
 have hq0:0≤(n:Int) / b:=Int.ediv_nonneg (by omega) (by omega)
 have hq1:(n:Int) / b≤n:=Int.ediv_le_self _ (by omega)
 go_enter Tryz.func68,Tryz.ntmps68
 go_wp2_with fail
 go_quiet (fail)
 have lM:Hid (Below w.heap.size w (w.drewN nq)):=Lib.hid ⟨rfl,rfl,rfl,Nat.le_refl _,fun _ _=>rfl⟩
 generalize w.drewN nq=w1 at*
 generalize (⟨#[48,49,50,51,52,53,54,55,56,57,97,98,99,100,101,102]⟩:ByteArray).extract (n % b) (n % b+1)=s0 at*
 go_wp2_with fail
 go_loop [0,8] (fun x s=> ∃(q:Nat) (st:ByteArray),x= .int .u64 q∧s= .string st∧q≤n∧(if q=0 then [] else iH b q)++bT st=iH b n) (fun x _=>(intOf x).toNat)
 case atStart=>exact ⟨n / b,s0,by rw [Int.natCast_ediv],rfl,Nat.div_le_self _ _,fD.out⟩
 case round=>
  obtain ⟨q,st,rfl,rfl,hqn,hinv⟩:=hrel
  by_cases hq:q=0
  ·subst hq
   have HI:=Lib.hid hinv
   clear hinv
   go_wp2
   go_ret
   exact ⟨st,rfl,by simpa using HI.out,lM.out⟩
  ·have hstep:(if q / b=0 then [] else iH b (q / b))++bT ((⟨#[48,49,50,51,52,53,54,55,56,57,97,98,99,100,101,102]⟩:ByteArray).extract (q % b) (q % b+1)++st)=iH b n:=by
    rw [Ce,YS _ (by have:=Nat.mod_lt q (show b>0 by omega);omega), ←List.append_assoc, ←y8 b q hb]
    simpa [hq] using hinv
   have hlen:st.size≤64:=by
    have h1:=congrArg List.length hinv
    rw [List.length_append,bC] at h1
    have:=HLEN.out
    omega
   have HST:=Lib.hid hstep
   have HDV:Hid (q / b<q):=Nat.div_lt_self (by omega) (by omega)
   clear hinv hstep Rn Rl Rk hq0 hq1
   have hqp:0<(q:Int):=by omega
   have Rn:=Int.emod_nonneg (q:Int) (show (b:Int)≠0 by omega)
   have Rl:=Int.emod_lt_of_pos (q:Int) hbp
   have Rk:(q:Int) % b<16:=by omega
   have hqI:(q:Int)≤18446744073709551615:=by omega
   have hq0:0≤(q:Int) / b:=Int.ediv_nonneg (by omega) (by omega)
   have hq1:(q:Int) / b≤q:=Int.ediv_le_self _ (by omega)
   go_wp2
   go_round
   case rel=>exact ⟨q / b,_,by rw [Int.natCast_ediv],rfl,by have:=HDV.out;omega,HST.out⟩
   case measure=>have:=HDV.out;simp [intOf];omega
theorem MC (t:ByteArray):bT ((⟨#[45]⟩:ByteArray)++t)=45::bT t:=by rw [Ce];rfl
set_option maxHeartbeats 4000000 in
theorem Hr (n:Int) (w:World) (h0: -9223372036854775808≤n) (h1:n≤9223372036854775807):
  Calls Tryz.prog 36 #[.int .i64 n] w fun e w'=> ∃t,e= .returned (.string t)∧bT t=textU n∧Below w.heap.size w w':=by
 by_cases hn:n<0
 ·obtain ⟨q,hq,hq1⟩: ∃q:Nat,n= -(q:Int)∧q≤9223372036854775808:=⟨n.natAbs,by omega,by omega⟩
  have HB:=Lib.hid (BK q 10 w (by omega) (by omega) (by omega))
  have HL:=Lib.hid (qy 10 (by omega) 20 q (by omega) (Nat.lt_of_le_of_lt hq1 (by decide)))
  have hw1:IntKind.i64.wrap (n+1)=n+1:=by
   unfold IntKind.wrap
   simp [IntKind.signed,IntKind.bits]
   omega
  have hw2:IntKind.i64.wrap (-(n+1))= -(n+1):=by
   unfold IntKind.wrap
   simp [IntKind.signed,IntKind.bits]
   omega
  have hw3:IntKind.u64.wrap (-(n+1))= -(n+1):=by
   unfold IntKind.wrap
   simp [IntKind.signed,IntKind.bits]
   omega
  have hw4:IntKind.u64.wrap (-(n+1)+1)=q:=by
   unfold IntKind.wrap
   simp [IntKind.signed,IntKind.bits]
   omega
  have HT:Hid (textU n=45::iH 10 q):=Lib.hid (by unfold textU;rw [if_pos hn];congr 2;omega)
  have HQ:=Lib.hid hq
  clear hq
  go_enter Tryz.func36,Tryz.ntmps36
  go_wp2_with fail
  refine HB.out.mono ?_
  rintro e w1 ⟨t,rfl,ht,hb1⟩
  have hsz:t.size≤20:=by
   have:=HL.out
   rw [←bC,ht]
   exact this
  have HE:Hid (bT ((⟨#[45]⟩:ByteArray)++t)=textU n):=Lib.hid (by rw [MC,ht,HT.out])
  have HB1:=Lib.hid hb1
  clear ht hb1
  go_wp2
  go_ret
  exact ⟨_,rfl,HE.out,HB1.out⟩
 ·obtain ⟨q,rfl⟩: ∃q:Nat,n=q:=⟨n.toNat,by omega⟩
  have HB:=Lib.hid (BK q 10 w (by omega) (by omega) (by omega))
  have hw3:IntKind.u64.wrap (q:Int)=q:=by
   unfold IntKind.wrap
   simp [IntKind.signed,IntKind.bits]
   omega
  have HT:Hid (textU (q:Int)=iH 10 q):=Lib.hid (by unfold textU;rw [if_neg (by omega)];rfl)
  go_enter Tryz.func36,Tryz.ntmps36
  go_wp2_with fail
  refine HB.out.mono ?_
  rintro e w1 ⟨t,rfl,ht,hb1⟩
  go_wp2
  go_ret
  exact ⟨t,rfl,by rw [ht,HT.out],hb1⟩
theorem I7 (n:Int) (w:World) (h:I64 n):Calls Tryz.prog 36 #[.int .i64 n] w fun e w'=>e= .returned (.string (gW n))∧Below w.heap.size w w':=by
 refine (Hr n w h.1 h.2).mono ?_
 rintro e w' ⟨t,rfl,ht,hb⟩
 rw [MF (ht.trans (MB n).symm)]
 exact ⟨rfl,hb⟩
theorem QL {l:Vl} {k:Nat} {n v:ByteArray} (h:l[k]? =some (n,v)):dX (l.drop k) n=some v:=by
 have hk:=(List.getElem?_eq_some_iff.1 h).1
 rw [List.drop_eq_getElem_cons hk]
 have e:l[k]=(n,v):=(List.getElem?_eq_some_iff.1 h).2
 rw [e]
 simp [dX]
theorem NZ {l:Vl} {k:Nat} {p n v:ByteArray} (h:l[k]? =some (p,v)) (hn: ¬p=n):dX (l.drop k) n=dX (l.drop (k+1)) n:=by
 have hk:=(List.getElem?_eq_some_iff.1 h).1
 rw [List.drop_eq_getElem_cons hk]
 have e:l[k]=(p,v):=(List.getElem?_eq_some_iff.1 h).2
 rw [e]
 simp [dX,hn]
theorem U5 (va:Value) (l:Vl) (nm:ByteArray) (w:World) (hv:VS w va l) (hl:l.length≤1000000):
  Calls Tryz.prog 140 #[va,.string nm] w fun e w'=>e= .returned (.tuple #[.string (jB l nm),.bool (dX l nm).isSome])∧Below w.heap.size w w':=by
 obtain ⟨ad,ac,rfl⟩: ∃ad ac,va= .slice ad l.length ac:=by
  rcases hv with ⟨rfl,x,y,h⟩ | ⟨x,y,z,h,_⟩
  ·exact ⟨x,y,h⟩
  ·exact ⟨_,z,h⟩
 have HA:=Lib.hid hv
 obtain ⟨n,hn⟩: ∃n,n=l.length:=⟨_,rfl⟩
 have HN:=Lib.hid hn
 rw [←hn] at hl
 rw [←hn]
 clear hv hn
 go_enter Tryz.func140,Tryz.ntmps140
 go_wp2_with fail
 go_loopw [10] (fun s10 X=> ∃k:Nat,s10= .int .i64 (k:Nat)∧k≤n∧dX l nm=dX (l.drop k) nm∧Below w.heap.size w X) (fun s10 _=>n - (intOf s10).toNat)
 case atStart=>exact ⟨0,rfl,Nat.zero_le _,rfl,Below.refl _ _⟩
 case round=>
  obtain ⟨k,rfl,hk,heq,hbl⟩:=hrel
  have lM:=Lib.hid hbl
  have DF:=Lib.hid heq
  clear hbl heq
  by_cases hlt:k<n
  ·have sO:k<l.length:=by rw [←HN.out];exact hlt
   obtain ⟨⟨pn,pv⟩,hp⟩: ∃x,l[k]? =some x:=⟨l[k],List.getElem?_eq_getElem sO⟩
   obtain ⟨g,o,cap,hsv,hg,hc⟩: ∃g o cap,(.slice ad l.length ac:Value)= .slice (some ⟨g,o,none⟩) l.length cap∧g<wr.heap.size∧ ∀(j:Nat) (p:ByteArray × ByteArray),l[j]? =some p→wr.cell? ⟨g,o+j*2,none⟩=some (.string p.1)∧wr.cell? ⟨g,o+j*2+1,none⟩=some (.string p.2):=by
    rcases HA.out.below lM.out with ⟨h0,_⟩ | h
    ·rw [h0] at sO;simp at sO
    ·exact h
   simp only [Value.slice.injEq] at hsv
   obtain ⟨rfl,hx1,hx2⟩:=hsv
   clear hx1 hx2
   obtain ⟨p0,p1⟩:=hc k _ hp
   have WW:(k:Int)<(n:Int):=by omega
   dsimp only at p0 p1
   have HP:=Lib.hid hp
   clear hc hp hg
   by_cases hpn:pn=nm
   ·subst hpn
    have e1:(pn.toList==pn.toList)=true:=beq_self_eq_true _
    go_wp2_with fail
    go_ret2
    have e:dX l pn=some pv:=by rw [DF.out];exact QL HP.out
    refine ⟨?_,lM.out.alloc lM.out.size _⟩
    unfold jB
    rw [e]
    rfl
   ·have e1:=Nw hpn
    have HPN:=Lib.hid hpn
    clear hpn
    go_wp2_with fail
    go_roundw
    case rel=>exact ⟨k+1,by go_num,by omega,DF.out.trans (NZ HP.out HPN.out),lM.out.alloc lM.out.size _⟩
    case measure=>simp [intOf];omega
  ·have hkn:k=n:=by omega
   have WW: ¬(k:Int)<(n:Int):=by omega
   have HNO:Hid (dX l nm=none):=Lib.hid (by rw [DF.out,List.drop_eq_nil_of_le (by have:=HN.out;omega)];rfl)
   clear hkn
   go_wp2_with fail
   go_ret2
   refine ⟨?_,lM.out⟩
   unfold jB
   rw [HNO.out]
   rfl
def maA (vv:Value) (c q:Nat):Array Value:= #[vv,.int .i64 c,.int .i64 q,.int .i64 (WV c)]
structure vG (mb:Nat) (vv:Value) (l:Vl) (c q:Nat) (w:World):Prop where
 blk:w.heap[mb]? =some (.cells (maA vv c q) 125 (0,0))
 vs:VS w vv l
 ap: ∀b o n cap,vv= .slice (some ⟨b,o,none⟩) n cap→l=[]∨b≠mb
theorem vG.lt {mb:Nat} {vv:Value} {l:Vl} {c q:Nat} {w:World} (h:vG mb vv l c q w):mb<w.heap.size:=lt_of_heap h.blk
theorem vG.ch {mb:Nat} {vv:Value} {l:Vl} {c q c' q':Nat} {w w':World} (h:vG mb vv l c q w) (hc:Ch mb w w') (hb:w'.heap[mb]? =some (.cells (maA vv c' q') 125 (0,0))):vG mb vv l c' q' w':=by
 refine ⟨hb,?_,h.ap⟩
 by_cases h0:l=[]
 ·subst h0
  obtain ⟨a,cap,e⟩: ∃a cap,vv= .slice a 0 cap:=by
   rcases h.vs with ⟨_,e⟩ | ⟨b,o,cap,e,_⟩
   ·exact e
   ·exact ⟨_,cap,e⟩
  exact Or.inl ⟨rfl,a,cap,e⟩
 ·refine h.vs.but (fun b hb o cap e=>hc.2 b hb ?_) hc.1.size
  rcases h.ap b o _ cap e with h1 | h1
  ·exact absurd h1 h0
  ·exact h1
theorem vG.next {mb:Nat} {vv:Value} {l:Vl} {c q:Nat} {w w':World} (h:vG mb vv l c q w) (hb:Below w.heap.size w w'):vG mb vv l c q w':=
 h.ch (Ch.of_below hb (Nat.le_of_lt h.lt)) ((hb.block mb h.lt).trans h.blk)
theorem vG.cells {mb:Nat} {vv:Value} {l:Vl} {c q:Nat} {w:World} (h:vG mb vv l c q w):w.cell? ⟨mb,0,none⟩=some vv∧w.cell? ⟨mb,1,none⟩=some (.int .i64 c)∧w.cell? ⟨mb,2,none⟩=some (.int .i64 q)∧w.cell? ⟨mb,3,none⟩=some (.int .i64 (WV c)):=
 ⟨(Lib.cell_of_heap h.blk 0).trans rfl,(Lib.cell_of_heap h.blk 1).trans rfl,(Lib.cell_of_heap h.blk 2).trans rfl,(Lib.cell_of_heap h.blk 3).trans rfl⟩
theorem vG.fr {mb:Nat} {vv:Value} {l:Vl} {c q:Nat} {w:World} (h:vG mb vv l c q w) (i:Nat):w.frozen? ⟨mb,i,none⟩=false:=by simp [World.frozen?,h.blk]
set_option maxHeartbeats 4000000 in
theorem LK {mb:Nat} {vv:Value} {l:Vl} {w:World} (h:vG mb vv l 0 0 w) (c p:Nat) (hc:0<c):
  Calls Tryz.prog 142 #[.pointer (some ⟨mb,0,none⟩),.int .i64 c,.int .i64 p] w fun x w'=>x= .returned (.int .i64 0)∧vG mb vv l c p w'∧Ch mb w w':=by
 obtain ⟨c0,c1,c2,c3⟩:=h.cells
 have f1:=h.fr 1
 have HH:=Lib.hid h
 have hlt:=h.lt
 clear h
 go_enter Tryz.func142,Tryz.ntmps142
 go_wp2_with fail
 refine (I8 (c:Nat) (p:Nat) 1 _).mono ?_
 rintro x w2 ⟨rfl,hb2⟩
 have h2:=HH.out.next hb2
 obtain ⟨d0,d1,d2,d3⟩:=h2.cells
 have NH:=Lib.hid h2
 have HB2:=Lib.hid hb2
 clear hb2 h2 c0 c1 c2 c3 f1
 go_wp2_with (first | (refine sK rfl 32 _ _ rfl rfl mb 1 [.int .i64 c,.int .i64 p,.int .i64 1] rfl rfl _ (maA vv 0 0) NH.out.blk (by kernel_rfl) (by show 1+3≤4;decide) rfl ?_) | fail)
 go_ret
 have hCh:Ch mb w (w2.setRow mb (spl (maA vv 0 0).toList 1 [.int .i64 c,.int .i64 p,.int .i64 1]).toArray):=⟨below_setRow (HB2.out.mono (Nat.le_of_lt hlt)) (Nat.le_refl _) _,fun i hi hn=>by
  show (w2.heap.modify mb _)[i]? =_
  rw [Array.getElem?_modify,if_neg (by omega)]
  exact HB2.out.block i hi⟩
 have hc0:c≠0:=by omega
 refine ⟨rfl,HH.out.ch hCh ?_,hCh⟩
 rw [setRow_self NH.out.blk]
 show some (Obj.cells #[vv,.int .i64 c,.int .i64 p,.int .i64 1] _ _)=_
 unfold maA WV
 rw [if_neg hc0]
set_option maxHeartbeats 4000000 in
theorem U9 {mb:Nat} {vv:Value} {l:Vl} {c q:Nat} {w:World} (h:vG mb vv l c q w) (hc:0<c) (c' p:Int):
  Calls Tryz.prog 142 #[.pointer (some ⟨mb,0,none⟩),.int .i64 c',.int .i64 p] w fun x w'=>x= .returned (.int .i64 0)∧w'=w:=by
 obtain ⟨c0,c1,c2,c3⟩:=h.cells
 have hq:((c:Int)==0)=false:=by simp;omega
 clear h
 go_enter Tryz.func142,Tryz.ntmps142
 go_wp2_with fail
 go_ret
 exact ⟨rfl,rfl⟩
set_option maxHeartbeats 4000000 in
theorem XL {mb:Nat} {vv:Value} {l:Vl} {w:World} (h:vG mb vv l 0 0 w) (hl:l.length≤1000000) (s:ByteArray) (p:Nat) (hz:(jB l s).size≤9223372036854775807):
  Calls Tryz.prog 100 #[.pointer (some ⟨mb,0,none⟩),.string s,.int .i64 p] w fun x w'=>(((numOf (jB l s)).2=0∧x= .returned (.int .i64 (numOf (jB l s)).1)∧vG mb vv l 0 0 w')∨(0<(numOf (jB l s)).2∧x= .returned (.int .i64 0)∧vG mb vv l (numOf (jB l s)).2 p w'))∧Ch mb w w':=by
 obtain ⟨c0,c1,c2,c3⟩:=h.cells
 have HH:=Lib.hid h
 have hlt:=h.lt
 have HG:=Lib.hid (U5 vv l s w h.vs hl)
 have HRN:=Lib.hid (fun X=>F5 (jB l s) X hz)
 obtain ⟨ad,ac,rfl⟩: ∃ad ac,vv= .slice ad l.length ac:=by
  rcases h.vs with ⟨rfl,x,y,h⟩ | ⟨x,y,z,h,_⟩
  ·exact ⟨x,y,h⟩
  ·exact ⟨_,z,h⟩
 generalize jB l s=v at*
 obtain ⟨nn,hnn⟩: ∃r,r=numOf v:=⟨_,rfl⟩
 rw [←hnn] at HRN⊢
 obtain ⟨n,k⟩:=nn
 clear h hz hnn
 dsimp only at HRN⊢
 go_enter Tryz.func100,Tryz.ntmps100
 go_wp2_with fail
 refine HG.out.mono ?_
 rintro e w1 ⟨rfl,hb1⟩
 have HB1:=Lib.hid hb1
 clear hb1 c0 c1 c2 c3
 go_wp2_with fail
 refine (HRN.out w1).mono ?_
 rintro e w2 ⟨rfl,hb2⟩
 have HB2:=Lib.hid (HB1.out.trans (hb2.mono HB1.out.size))
 have NH:=Lib.hid (HH.out.next HB2.out)
 have HC2:Hid (Ch mb w w2):=Lib.hid (Ch.of_below HB2.out (Nat.le_of_lt hlt))
 clear hb2
 by_cases hk:k=0
 ·subst hk
  go_wp2_with fail
  go_ret
  exact ⟨⟨rfl,NH.out⟩,HC2.out⟩
 ·have hq:((k:Int)==0)=false:=by simp;omega
  have hki: ¬(k:Int)=0:=by omega
  have HK:Hid (0<k):=Lib.hid (by omega)
  clear hk
  go_wp2_with fail
  refine (LK NH.out k p HK.out).mono ?_
  rintro e w3 ⟨rfl,h3,hc3⟩
  have HH3:=Lib.hid h3
  have Na:=Lib.hid (HC2.out.trans hc3)
  clear h3 hc3
  go_wp2_with fail
  go_ret
  exact ⟨Or.inr ⟨HK.out,rfl,HH3.out⟩,Na.out⟩
set_option maxHeartbeats 1000000 in
theorem dF (b:Bool) (w:World):Calls Tryz.prog 102 #[.bool b] w fun e w'=>e= .returned (.int .i64 (if b=true then 1 else 0))∧w=w':=by
 cases b<;>
 ·go_enter Tryz.func102,Tryz.ntmps102
  go_wp2_with fail
  go_ret
  exact ⟨rfl,rfl⟩
set_option maxHeartbeats 1000000 in
theorem UZ (m:Option Addr) (l r p:Int) (w:World):Calls Tryz.prog 101 #[.pointer m,.string ⟨#[43]⟩,.int .i64 l,.int .i64 r,.int .i64 p] w fun e w'=>e= .returned (.int .i64 (wrap64 (l+r)))∧w=w':=by
 go_enter Tryz.func101,Tryz.ntmps101
 go_wp2_with fail
 go_ret
 exact ⟨rfl,rfl⟩
set_option maxHeartbeats 1000000 in
theorem Qy (m:Option Addr) (l r p:Int) (w:World):Calls Tryz.prog 101 #[.pointer m,.string ⟨#[45]⟩,.int .i64 l,.int .i64 r,.int .i64 p] w fun e w'=>e= .returned (.int .i64 (wrap64 (l - r)))∧w=w':=by
 go_enter Tryz.func101,Tryz.ntmps101
 go_wp2_with fail
 go_ret
 exact ⟨rfl,rfl⟩
set_option maxHeartbeats 1000000 in
theorem two_mul (m:Option Addr) (l r p:Int) (w:World):Calls Tryz.prog 101 #[.pointer m,.string ⟨#[42]⟩,.int .i64 l,.int .i64 r,.int .i64 p] w fun e w'=>e= .returned (.int .i64 (wrap64 (l*r)))∧w=w':=by
 go_enter Tryz.func101,Tryz.ntmps101
 go_wp2_with fail
 go_ret
 exact ⟨rfl,rfl⟩
set_option maxHeartbeats 1000000 in
theorem Xy (m:Option Addr) (l r p:Int) (w:World):Calls Tryz.prog 101 #[.pointer m,.string ⟨#[38]⟩,.int .i64 l,.int .i64 r,.int .i64 p] w fun e w'=>e= .returned (.int .i64 (bits .and .i64 l r))∧w=w':=by
 go_enter Tryz.func101,Tryz.ntmps101
 go_wp2_with fail
 go_ret
 exact ⟨rfl,rfl⟩
set_option maxHeartbeats 1000000 in
theorem aav (m:Option Addr) (l r p:Int) (w:World):Calls Tryz.prog 101 #[.pointer m,.string ⟨#[124]⟩,.int .i64 l,.int .i64 r,.int .i64 p] w fun e w'=>e= .returned (.int .i64 (bits .or .i64 l r))∧w=w':=by
 go_enter Tryz.func101,Tryz.ntmps101
 go_wp2_with fail
 go_ret
 exact ⟨rfl,rfl⟩
set_option maxHeartbeats 1000000 in
theorem Xt (m:Option Addr) (l r p:Int) (w:World):Calls Tryz.prog 101 #[.pointer m,.string ⟨#[94]⟩,.int .i64 l,.int .i64 r,.int .i64 p] w fun e w'=>e= .returned (.int .i64 (bits .xor .i64 l r))∧w=w':=by
 go_enter Tryz.func101,Tryz.ntmps101
 go_wp2_with fail
 go_ret
 exact ⟨rfl,rfl⟩
set_option maxHeartbeats 1000000 in
theorem Xv (m:Option Addr) (l r p:Int) (w:World):Calls Tryz.prog 101 #[.pointer m,.string ⟨#[60,60]⟩,.int .i64 l,.int .i64 r,.int .i64 p] w fun e w'=>e= .returned (.int .i64 (wrap64 (l*2 ^ Jp r)))∧w=w':=by
 obtain ⟨hb,hn⟩:=Dh r
 generalize Jp r=n at*
 have hneg: ¬(n:Int)<0:=by omega
 have hmin:min n 64=n:=by omega
 have Ou:min (n:Int).toNat 64=n:=by omega
 have hwu:IntKind.u64.wrap (n:Int)=n:=by
  unfold IntKind.wrap
  simp [IntKind.signed,IntKind.bits]
  omega
 go_enter Tryz.func101,Tryz.ntmps101
 go_wp2_with fail
 go_ret
 exact ⟨rfl,rfl⟩
set_option maxHeartbeats 1000000 in
theorem Xu (m:Option Addr) (l r p:Int) (w:World):Calls Tryz.prog 101 #[.pointer m,.string ⟨#[62,62]⟩,.int .i64 l,.int .i64 r,.int .i64 p] w fun e w'=>e= .returned (.int .i64 (l / 2 ^ Jp r))∧w=w':=by
 obtain ⟨hb,hn⟩:=Dh r
 generalize Jp r=n at*
 have hneg: ¬(n:Int)<0:=by omega
 have hmin:min n 64=n:=by omega
 have Ou:min (n:Int).toNat 64=n:=by omega
 have hwu:IntKind.u64.wrap (n:Int)=n:=by
  unfold IntKind.wrap
  simp [IntKind.signed,IntKind.bits]
  omega
 go_enter Tryz.func101,Tryz.ntmps101
 go_wp2_with fail
 go_ret
 exact ⟨rfl,rfl⟩
set_option maxHeartbeats 1000000 in
theorem aaw (m:Option Addr) (l r p:Int) (w:World):Calls Tryz.prog 101 #[.pointer m,.string ⟨#[33,61]⟩,.int .i64 l,.int .i64 r,.int .i64 p] w fun e w'=>e= .returned (.int .i64 (if l≠r then 1 else 0))∧w=w':=by
 by_cases h:l≠r
 ·rw [if_pos h]
  have hd:decide (l≠r)=true:=decide_eq_true h
  go_enter Tryz.func101,Tryz.ntmps101
  go_wp2_with fail
  refine (dF _ w).mono ?_
  rintro e w1 ⟨rfl,rfl⟩
  go_wp2_with fail
  go_ret
  first | exact ⟨rfl,rfl⟩ | (refine ⟨?_,rfl⟩;simp)
 ·rw [if_neg h]
  have hd:decide (l≠r)=false:=decide_eq_false h
  go_enter Tryz.func101,Tryz.ntmps101
  go_wp2_with fail
  refine (dF _ w).mono ?_
  rintro e w1 ⟨rfl,rfl⟩
  go_wp2_with fail
  go_ret
  first | exact ⟨rfl,rfl⟩ | (refine ⟨?_,rfl⟩;simp)
set_option maxHeartbeats 1000000 in
theorem aaB (m:Option Addr) (l r p:Int) (w:World):Calls Tryz.prog 101 #[.pointer m,.string ⟨#[61,61]⟩,.int .i64 l,.int .i64 r,.int .i64 p] w fun e w'=>e= .returned (.int .i64 (if l=r then 1 else 0))∧w=w':=by
 by_cases h:l=r
 ·rw [if_pos h]
  have hd:decide (l=r)=true:=decide_eq_true h
  go_enter Tryz.func101,Tryz.ntmps101
  go_wp2_with fail
  refine (dF _ w).mono ?_
  rintro e w1 ⟨rfl,rfl⟩
  go_wp2_with fail
  go_ret
  first | exact ⟨rfl,rfl⟩ | (refine ⟨?_,rfl⟩;simp)
 ·rw [if_neg h]
  have hd:decide (l=r)=false:=decide_eq_false h
  go_enter Tryz.func101,Tryz.ntmps101
  go_wp2_with fail
  refine (dF _ w).mono ?_
  rintro e w1 ⟨rfl,rfl⟩
  go_wp2_with fail
  go_ret
  first | exact ⟨rfl,rfl⟩ | (refine ⟨?_,rfl⟩;simp)
set_option maxHeartbeats 1000000 in
theorem aaz (m:Option Addr) (l r p:Int) (w:World):Calls Tryz.prog 101 #[.pointer m,.string ⟨#[62]⟩,.int .i64 l,.int .i64 r,.int .i64 p] w fun e w'=>e= .returned (.int .i64 (if r<l then 1 else 0))∧w=w':=by
 by_cases h:r<l
 ·rw [if_pos h]
  have hd:decide (r<l)=true:=decide_eq_true h
  go_enter Tryz.func101,Tryz.ntmps101
  go_wp2_with fail
  refine (dF _ w).mono ?_
  rintro e w1 ⟨rfl,rfl⟩
  go_wp2_with fail
  go_ret
  first | exact ⟨rfl,rfl⟩ | (refine ⟨?_,rfl⟩;simp)
 ·rw [if_neg h]
  have hd:decide (r<l)=false:=decide_eq_false h
  go_enter Tryz.func101,Tryz.ntmps101
  go_wp2_with fail
  refine (dF _ w).mono ?_
  rintro e w1 ⟨rfl,rfl⟩
  go_wp2_with fail
  go_ret
  first | exact ⟨rfl,rfl⟩ | (refine ⟨?_,rfl⟩;simp)
set_option maxHeartbeats 1000000 in
theorem aax (m:Option Addr) (l r p:Int) (w:World):Calls Tryz.prog 101 #[.pointer m,.string ⟨#[60]⟩,.int .i64 l,.int .i64 r,.int .i64 p] w fun e w'=>e= .returned (.int .i64 (if l<r then 1 else 0))∧w=w':=by
 by_cases h:l<r
 ·rw [if_pos h]
  have hd:decide (l<r)=true:=decide_eq_true h
  go_enter Tryz.func101,Tryz.ntmps101
  go_wp2_with fail
  refine (dF _ w).mono ?_
  rintro e w1 ⟨rfl,rfl⟩
  go_wp2_with fail
  go_ret
  first | exact ⟨rfl,rfl⟩ | (refine ⟨?_,rfl⟩;simp)
 ·rw [if_neg h]
  have hd:decide (l<r)=false:=decide_eq_false h
  go_enter Tryz.func101,Tryz.ntmps101
  go_wp2_with fail
  refine (dF _ w).mono ?_
  rintro e w1 ⟨rfl,rfl⟩
  go_wp2_with fail
  go_ret
  first | exact ⟨rfl,rfl⟩ | (refine ⟨?_,rfl⟩;simp)
set_option maxHeartbeats 1000000 in
theorem aaA (m:Option Addr) (l r p:Int) (w:World):Calls Tryz.prog 101 #[.pointer m,.string ⟨#[62,61]⟩,.int .i64 l,.int .i64 r,.int .i64 p] w fun e w'=>e= .returned (.int .i64 (if r≤l then 1 else 0))∧w=w':=by
 by_cases h:r≤l
 ·rw [if_pos h]
  have hd:decide (r≤l)=true:=decide_eq_true h
  go_enter Tryz.func101,Tryz.ntmps101
  go_wp2_with fail
  refine (dF _ w).mono ?_
  rintro e w1 ⟨rfl,rfl⟩
  go_wp2_with fail
  go_ret
  first | exact ⟨rfl,rfl⟩ | (refine ⟨?_,rfl⟩;simp)
 ·rw [if_neg h]
  have hd:decide (r≤l)=false:=decide_eq_false h
  go_enter Tryz.func101,Tryz.ntmps101
  go_wp2_with fail
  refine (dF _ w).mono ?_
  rintro e w1 ⟨rfl,rfl⟩
  go_wp2_with fail
  go_ret
  first | exact ⟨rfl,rfl⟩ | (refine ⟨?_,rfl⟩;simp)
set_option maxHeartbeats 1000000 in
theorem aay (m:Option Addr) (l r p:Int) (w:World):Calls Tryz.prog 101 #[.pointer m,.string ⟨#[60,61]⟩,.int .i64 l,.int .i64 r,.int .i64 p] w fun e w'=>e= .returned (.int .i64 (if l≤r then 1 else 0))∧w=w':=by
 by_cases h:l≤r
 ·rw [if_pos h]
  have hd:decide (l≤r)=true:=decide_eq_true h
  go_enter Tryz.func101,Tryz.ntmps101
  go_wp2_with fail
  refine (dF _ w).mono ?_
  rintro e w1 ⟨rfl,rfl⟩
  go_wp2_with fail
  go_ret
  first | exact ⟨rfl,rfl⟩ | (refine ⟨?_,rfl⟩;simp)
 ·rw [if_neg h]
  have hd:decide (l≤r)=false:=decide_eq_false h
  go_enter Tryz.func101,Tryz.ntmps101
  go_wp2_with fail
  refine (dF _ w).mono ?_
  rintro e w1 ⟨rfl,rfl⟩
  go_wp2_with fail
  go_ret
  first | exact ⟨rfl,rfl⟩ | (refine ⟨?_,rfl⟩;simp)
set_option maxHeartbeats 1000000 in
theorem Xx (m:Option Addr) (l r p:Int) (h0: ¬r=0) (w:World):Calls Tryz.prog 101 #[.pointer m,.string ⟨#[47]⟩,.int .i64 l,.int .i64 r,.int .i64 p] w fun e w'=>e= .returned (.int .i64 (wrap64 (l.tdiv r)))∧w=w':=by
 by_cases h1:r= -1
 ·subst h1
  have e:wrap64 (l.tdiv (-1))=wrap64 (-l):=by rw [Int.tdiv_neg,Int.tdiv_one]
  rw [e]
  go_enter Tryz.func101,Tryz.ntmps101
  go_wp2_with fail
  go_ret
  exact ⟨rfl,rfl⟩
 ·have hz:(r==0)=false:=by simp;exact h0
  have ho:(r== -1)=false:=by simp;exact h1
  go_enter Tryz.func101,Tryz.ntmps101
  go_wp2_with fail
  go_ret
  exact ⟨rfl,rfl⟩
set_option maxHeartbeats 1000000 in
theorem Xw (m:Option Addr) (l r p:Int) (h0: ¬r=0) (w:World):Calls Tryz.prog 101 #[.pointer m,.string ⟨#[37]⟩,.int .i64 l,.int .i64 r,.int .i64 p] w fun e w'=>e= .returned (.int .i64 (l.tmod r))∧w=w':=by
 by_cases h1:r= -1
 ·subst h1
  have e:l.tmod (-1)=0:=by rw [Int.tmod_neg,Int.tmod_one]
  rw [e]
  go_enter Tryz.func101,Tryz.ntmps101
  go_wp2_with fail
  go_ret
  exact ⟨rfl,rfl⟩
 ·have hz:(r==0)=false:=by simp;exact h0
  have ho:(r== -1)=false:=by simp;exact h1
  go_enter Tryz.func101,Tryz.ntmps101
  go_wp2_with fail
  go_ret
  exact ⟨rfl,rfl⟩
theorem Je {op:ByteArray} (hop:op∈lN) (h1: ¬op=fV) (h2: ¬op=jR) (m:Option Addr) (l r p:Int) (hz: ¬(r=0∧(op=Jv∨op=Ju))) (w:World):
  Calls Tryz.prog 101 #[.pointer m,.string op,.int .i64 l,.int .i64 r,.int .i64 p] w fun e w'=>(∃x,kK op l r=some x∧e= .returned (.int .i64 x))∧w=w':=by
 have key: ∀x,kK op l r=some x→(Calls Tryz.prog 101 #[.pointer m,.string op,.int .i64 l,.int .i64 r,.int .i64 p] w fun e w'=>e= .returned (.int .i64 x)∧w=w')→Calls Tryz.prog 101 #[.pointer m,.string op,.int .i64 l,.int .i64 r,.int .i64 p] w fun e w'=>(∃x,kK op l r=some x∧e= .returned (.int .i64 x))∧w=w':=fun x hx h=>h.mono (by rintro e w' ⟨rfl,hw⟩;exact ⟨⟨x,hx,rfl⟩,hw⟩)
 simp only [lN,bG,List.flatten_cons,List.flatten_nil,List.append_nil,List.cons_append,List.nil_append,List.mem_cons,List.not_mem_nil,or_false] at hop
 rcases hop with rfl | rfl | rfl | rfl | rfl | rfl | rfl | rfl | rfl | rfl | rfl | rfl | rfl | rfl | rfl | rfl | rfl | rfl
 ·exact absurd rfl h2
 ·exact absurd rfl h1
 ·exact key _ (by rfl) (aav m l r p w)
 ·exact key _ (by rfl) (Xt m l r p w)
 ·exact key _ (by rfl) (Xy m l r p w)
 ·exact key _ (by rfl) (aaB m l r p w)
 ·exact key _ (by rfl) (aaw m l r p w)
 ·exact key _ (by rfl) (aax m l r p w)
 ·exact key _ (by rfl) (aay m l r p w)
 ·exact key _ (by rfl) (aaz m l r p w)
 ·exact key _ (by rfl) (aaA m l r p w)
 ·exact key _ (by rfl) (Xv m l r p w)
 ·exact key _ (by rfl) (Xu m l r p w)
 ·exact key _ (by rfl) (UZ m l r p w)
 ·exact key _ (by rfl) (Qy m l r p w)
 ·exact key _ (by rfl) (two_mul m l r p w)
 ·have hr: ¬r=0:=fun e=>hz ⟨e,Or.inl rfl⟩
  exact key _ (by unfold kK;simp only [if_neg hr];rfl) (Xx m l r p hr w)
 ·have hr: ¬r=0:=fun e=>hz ⟨e,Or.inr rfl⟩
  exact key _ (by unfold kK;simp only [if_neg hr];rfl) (Xw m l r p hr w)
set_option maxHeartbeats 2000000 in
theorem KA {mb:Nat} {op:ByteArray} (hop:op=Jv∨op=Ju) (l p:Int) (w:World) (Q:Ending→World→Prop) (_hc:w.cell? ⟨mb,0,none⟩≠none)
  (hf:Calls Tryz.prog 142 #[.pointer (some ⟨mb,0,none⟩),.int .i64 12,.int .i64 p] w fun e w'=>e= .returned (.int .i64 0)∧Q e w'):
  Calls Tryz.prog 101 #[.pointer (some ⟨mb,0,none⟩),.string op,.int .i64 l,.int .i64 0,.int .i64 p] w fun e w'=>e= .returned (.int .i64 0)∧Q e w':=by
 have HF:=Lib.hid hf
 clear hf
 have JF:Hid (op=⟨#[47]⟩∨op=⟨#[37]⟩):=Lib.hid hop
 clear hop
 rcases JF.out with rfl | rfl
 all_goals
  clear JF
  go_enter Tryz.func101,Tryz.ntmps101
  go_wp2_with fail
  refine HF.out.mono ?_
  rintro e w1 ⟨rfl,hq⟩
  have HQ:=Lib.hid hq
  clear hq
  go_wp2_with fail
  go_ret
  exact ⟨rfl,HQ.out⟩
abbrev dY (l:Vl):ByteArray→Int × Nat:=fun n=>numOf (jB l n)
def pX (mb:Nat) (l0:Vl) (rv:Rv) (n:Int) (w:World):Prop:=
 match rv with
 | .ok v e=>n=v∧ ∃vv,vG mb vv (iK e l0) 0 0 w
 | .bad c p=>0<c∧ ∃vv l,vG mb vv l c p w
 | .no=>False
def Dt (mb:Nat) (l0:Vl) (rv:Rv) (x:Ending) (w:World):Prop:= ∃n,x= .returned (.int .i64 n)∧pX mb l0 rv n w
def zi (mb:Nat) (l0:Vl) (t:Tr):Prop:= ∀(e:Asc) (kv:Value) (vv:Value) (w:World),e.length+need t≤10000→kC e→t.kL w (fun i=>i≠mb) kv→vG mb vv (iK e l0) 0 0 w→
 Calls Tryz.prog 67 #[.pointer (some ⟨mb,0,none⟩),.agg #[.string t.op,.int .i64 t.val,.string t.nm,.int .i64 t.pos,.int .i64 t.aG,kv]] w fun x w'=>Dt mb l0 (ev (dY l0) t e) x w'∧Ch mb w w'
theorem Tr.kL.shape {w:World} {P:Nat→Prop}: ∀{t:Tr} {kv:Value},t.kL w P kv→ ∃o n,kv= .slice o n n
 | .num _ _,_,h=>⟨none,0,h⟩
 | .name _ _,_,h=>⟨none,0,h⟩
 | .un _ _ _,_,⟨k,_,e,_⟩=>⟨some ⟨k,0,none⟩,1,e⟩
 | .bin _ _ _ _,_,⟨k,_,_,e,_⟩=>⟨some ⟨k,0,none⟩,2,e⟩
 | .cond _ _ _ _ _,_,⟨k,_,_,_,e,_⟩=>⟨some ⟨k,0,none⟩,3,e⟩
 | .eF _ _ _ _ _,_,⟨k,_,e,_⟩=>⟨some ⟨k,0,none⟩,1,e⟩
theorem AL (l:Vl) (e:Asc) (h:l.length≤5000) (he:e.length≤10000):(iK e l).length≤1000000:=by
 have:=xR l e
 omega
theorem Qx {v:Int} (h:I64 v):(gW v).size≤9223372036854775807:=by
 have h1:(gW v).size=(Lib.itoa v).length:=by
  show (Lib.itoa v).toArray.size=_
  simp
 have key: ∀n:Nat,n≤9223372036854775808→(Lib.decDigits n).length≤20:=by
  intro n hn
  have e:(Lib.decDigits n).length=(iH 10 n).length:=by rw [←uY];unfold dL;simp
  rw [e]
  exact qy 10 (by omega) 20 n (by omega) (by omega)
 unfold I64 at h
 rw [h1]
 unfold Lib.itoa
 split
 ·have:=key v.natAbs (by omega)
  simp only [List.length_cons];omega
 ·have:=key v.toNat (by omega)
  omega
theorem valz {l:Vl} (hr:l.lS) (hz: ∀x∈l,x.2.size≤9223372036854775807) {e:Asc} (he:kC e) (s:ByteArray):(jB (iK e l) s).size≤9223372036854775807:=by
 unfold jB
 rw [rJ hr s e]
 cases hl:look e s with
 | none=>
  cases hv:dX l s with
  | none=>decide
  | some v=>exact hz _ ((iD hr).1 hv)
 | some v=>exact Qx (he.look hl)
set_option maxHeartbeats 4000000 in
theorem aaP {mb:Nat} {vv:Value} {l:Vl} {c q:Nat} {w:World} (h:vG mb vv l c q w) (hc:0<c) (op nm:ByteArray) (va ps ap:Int) (o:Option Addr) (n:Nat):
  Calls Tryz.prog 67 #[.pointer (some ⟨mb,0,none⟩),.agg #[.string op,.int .i64 va,.string nm,.int .i64 ps,.int .i64 ap,.slice o n n]] w fun x w'=>x= .returned (.int .i64 0)∧vG mb vv l c q w'∧Ch mb w w':=by
 obtain ⟨W,hW⟩: ∃W,W=w.alloc (.cells #[.string op,.int .i64 va,.string nm,.int .i64 ps,.int .i64 ap,.slice o n n] 30):=⟨_,rfl⟩
 have hb0:Below w.heap.size w W:=by rw [hW];exact (Below.refl _ _).alloc (Nat.le_refl _) _
 have hh:=h.next hb0
 obtain ⟨c0,c1,c2,c3⟩:=hh.cells
 have hq:((c:Int)==0)=false:=by simp;omega
 have hqi: ¬(c:Int)=0:=by omega
 have HF:Hid (vG mb vv l c q W∧Ch mb w W):=Lib.hid ⟨hh,Ch.of_below hb0 (Nat.le_of_lt h.lt)⟩
 have HW:=Lib.hid hW
 clear h hc hh hb0 hW
 go_enter Tryz.func67,Tryz.ntmps67
 go_upto_region 1 with fail
 rw [←HW.out]
 go_wp2_with fail
 go_ret
 exact ⟨rfl,HF.out⟩
theorem xw {mb:Nat} {l0:Vl} {t:Tr} (ht:zi mb l0 t) {rv:Rv} {n:Int} {w:World} (h:pX mb l0 rv n w) (hr: ∀v e,rv= .ok v e→kC e∧e.length+need t≤10000) {kv:Value} (hk:t.kL w (fun i=>i≠mb) kv):
  Calls Tryz.prog 67 #[.pointer (some ⟨mb,0,none⟩),.agg #[.string t.op,.int .i64 t.val,.string t.nm,.int .i64 t.pos,.int .i64 t.aG,kv]] w fun x w'=>Dt mb l0 (rv.then fun _ e=>ev (dY l0) t e) x w'∧Ch mb w w':=by
 cases rv with
 | ok v e=>
  obtain ⟨_,vv,hm⟩:=h
  obtain ⟨h1,h2⟩:=hr v e rfl
  exact ht e kv vv w h2 h1 hk hm
 | bad c p=>
  obtain ⟨hc,vv,l,hm⟩:=h
  obtain ⟨o,m,rfl⟩:=hk.shape
  refine (aaP hm hc _ _ _ _ _ o m).mono ?_
  rintro x w' ⟨rfl,h1,h2⟩
  exact ⟨⟨0,rfl,hc,vv,l,h1⟩,h2⟩
 | no=>exact h.elim
theorem OA {mb:Nat} {l0:Vl} {op:ByteArray} (hop:op∈lN) (h1: ¬op=fV) (h2: ¬op=jR) {rv:Rv} {u:Int} {w:World} (h:pX mb l0 rv u w) (v:Int) (p:Nat):
  Calls Tryz.prog 101 #[.pointer (some ⟨mb,0,none⟩),.string op,.int .i64 v,.int .i64 u,.int .i64 p] w fun x w'=>Dt mb l0 (rv.then fun u' e2=>gq op p v u' e2) x w'∧Ch mb w w':=by
 by_cases hz:u=0∧(op=Jv∨op=Ju)
 ·obtain ⟨rfl,hd⟩:=hz
  cases rv with
  | ok v' e=>
   obtain ⟨rfl,vv,hm⟩:=h
   refine (KA hd v p w (fun _ w'=>vG mb vv (iK e l0) 12 p w'∧Ch mb w w') (by rw [hm.cells.1];simp) ((LK hm 12 p (by omega)).mono (by rintro x w' ⟨rfl,k⟩;exact ⟨rfl,k⟩))).mono ?_
   rintro x w' ⟨rfl,k1,k2⟩
   refine ⟨⟨0,rfl,?_⟩,k2⟩
   show pX mb l0 (gq op p v 0 e) 0 w'
   unfold gq
   rw [if_pos ⟨rfl,hd⟩]
   exact ⟨by omega,vv,_,k1⟩
  | bad c q=>
   obtain ⟨hc,vv,l,hm⟩:=h
   refine (KA hd v p w (fun _ w'=>vG mb vv l c q w'∧Ch mb w w') (by rw [hm.cells.1];simp) ((U9 hm hc 12 p).mono (by rintro x w' ⟨rfl,rfl⟩;exact ⟨rfl,hm,Ch.refl _ _⟩))).mono ?_
   rintro x w' ⟨rfl,k1,k2⟩
   exact ⟨⟨0,rfl,hc,vv,l,k1⟩,k2⟩
  | no=>exact h.elim
 ·refine (Je hop h1 h2 (some ⟨mb,0,none⟩) v u p hz w).mono ?_
  rintro x w' ⟨⟨y,hy,rfl⟩,rfl⟩
  refine ⟨⟨y,rfl,?_⟩,Ch.refl _ _⟩
  cases rv with
  | ok v' e=>
   obtain ⟨rfl,vv,hm⟩:=h
   show pX mb l0 (gq op p v u e) y _
   unfold gq
   rw [if_neg hz,hy]
   exact ⟨rfl,vv,hm⟩
  | bad c q=>exact h
  | no=>exact h.elim
theorem ld_next {mb:Nat} {l0:Vl} (hr:l0.lS) (hz: ∀x∈l0,x.2.size≤9223372036854775807) (hl:l0.length≤5000) {e:Asc} (he:kC e) (hel:e.length≤10000) {vv:Value} {w:World} (h:vG mb vv (iK e l0) 0 0 w) (s:ByteArray) (p:Nat):
  Calls Tryz.prog 100 #[.pointer (some ⟨mb,0,none⟩),.string s,.int .i64 p] w fun x w'=>Dt mb l0 (jZ (dY l0) s p e) x w'∧Ch mb w w':=by
 refine (XL h (AL l0 e hl hel) s p (valz hr hz he s)).mono ?_
 rintro x w' ⟨hq,hc⟩
 refine ⟨?_,hc⟩
 rw [aaK hr he s] at hq
 unfold jZ
 cases hk:look e s with
 | some v=>
  rw [hk] at hq
  rcases hq with ⟨_,rfl,hm⟩ | ⟨h0,_⟩
  ·exact ⟨v,rfl,rfl,vv,hm⟩
  ·exact absurd h0 (by simp)
 | none=>
  rw [hk] at hq
  dsimp only at hq⊢
  rcases hq with ⟨h0,rfl,hm⟩ | ⟨h0,rfl,hm⟩
  ·rw [if_pos h0]
   exact ⟨_,rfl,rfl,vv,hm⟩
  ·rw [if_neg (by show¬(numOf (jB l0 s)).2=0;omega)]
   exact ⟨_,rfl,h0,vv,_,hm⟩
theorem pX.map {mb:Nat} {l0:Vl} {rv:Rv} {n:Int} {w:World} (h:pX mb l0 rv n w) (m:Int) (f:Int→Asc→Rv) (hf: ∀v e,rv= .ok v e→n=v→f v e= .ok m e):pX mb l0 (rv.then f) m w:=by
 cases rv with
 | ok v e=>
  obtain ⟨h1,h2⟩:=h
  show pX mb l0 (f v e) m w
  rw [hf v e rfl h1]
  exact ⟨rfl,h2⟩
 | bad c p=>exact h
 | no=>exact h.elim
theorem pX.ne {mb:Nat} {l0:Vl} {rv:Rv} {n:Int} {w:World} (h:pX mb l0 rv n w):mb<w.heap.size:=by
 cases rv with
 | ok v e=>obtain ⟨_,vv,hm⟩:=h;exact hm.lt
 | bad c p=>obtain ⟨_,vv,l,hm⟩:=h;exact hm.lt
 | no=>exact h.elim
theorem Rv.tX (rv:Rv) (f g:Int→Asc→Rv):(rv.then f).then g=rv.then fun v e=>(f v e).then g:=by cases rv<;>rfl
theorem tV {mb:Nat} {l0:Vl} {rv:Rv} {n:Int} {w:World} (h:pX mb l0 rv n w) (f:Int→Asc→Rv):(rv.then fun _ e=>f n e)=rv.then f:=by
 cases rv with
 | ok v e=>
  obtain ⟨rfl,_⟩:=h
  rfl
 | bad c p=>rfl
 | no=>rfl
end Go.Proofs.YtacfglopionkfaaGreatDoor
