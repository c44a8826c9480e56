import Derived.Test.YtacfglopionkfaaGreatDoorKVj
import Derived.Test.YtacfglopionkfaaGreatDoorKLw
import Derived.Test.YtacfglopionkfaaGreatDoorKRk
import Derived.LoopTactic
import Derived.Deep.QuietTactic
import Derived.Test.YtacfglopionkfaaGreatDoorKRt
import Derived.Test.YtacfglopionkfaaGreatDoorKNu
import Derived.Test.YtacfglopionkfaaGreatDoorArTokAt
import Derived.Test.YtacfglopionkfaaGreatDoorKDg
import Derived.Test.YtacfglopionkfaaGreatDoorKSc
import Derived.Test.YtacfglopionkfaaGreatDoorKOs
import Derived.Test.YtacfglopionkfaaGreatDoorKAs
import Derived.Test.YtacfglopionkfaaGreatDoorKLi
import Derived.Deep.LoopGhost
namespace Go.Proofs.YtacfglopionkfaaGreatDoor
set_option maxHeartbeats 8000000
set_option maxRecDepth 100000
open Go.RowKit Go.WideMaps Go.Maps
theorem MI: ∀op∈aF,fZ op=true→bF op=ak∨((lN.any fun x=>decide (x=bF op))=true∧ ¬bF op=fV∧ ¬bF op=jR):=by decide
theorem Jd (op:ByteArray) (h:op∈aF) (h2:fZ op=true):bF op=ak∨(bF op∈lN∧ ¬bF op=fV∧ ¬bF op=jR):=by
 rcases MI op h h2 with h | ⟨h,k⟩
 ·exact Or.inl h
 ·obtain ⟨x,hx,he⟩:=List.any_eq_true.1 h
  have:=of_decide_eq_true he
  subst this
  exact Or.inr ⟨hx,k⟩
theorem lD (NV:ByteArray→Int × Nat): ∀(t:Tr) (e:Asc),t.Ops→ev NV t e≠ .no
 | .num n p,e,_=>by simp [ev]
 | .name s p,e,_=>by
  show jZ NV s p e≠ .no
  unfold jZ
  split
  ·simp
  ·split<;>simp
 | .un op p a,e,ho=>eU (lD NV a e ho.2) (fun v e1=>Gw ho.1 v e1)
 | .bin op p a b,e,ho=>by
  refine eU (lD NV a e ho.2.1) (fun v e1=>?_)
  have ib:=lD NV b e1 ho.2.2
  by_cases c1:op=fV
  ·simp only [if_pos c1]
   by_cases c:v=0
   ·simp [if_pos c]
   ·simp only [if_neg c];exact eU ib (fun u e2=>sS u e2)
  ·simp only [if_neg c1]
   by_cases c2:op=jR
   ·simp only [if_pos c2]
    by_cases c:v=0
    ·simp only [if_pos c];exact eU ib (fun u e2=>sS u e2)
    ·simp [if_neg c]
   ·simp only [if_neg c2];exact eU ib (fun u e2=>xQ (FB ho.1) c1 c2 _ v u e2)
 | .cond op p a b c,e,ho=>by
  refine eU (lD NV a e ho.2.1) (fun v e1=>?_)
  by_cases c0:v=0
  ·simp only [if_pos c0];exact lD NV c e1 ho.2.2.2
  ·simp only [if_neg c0];exact lD NV b e1 ho.2.2.1
 | .eF op s p q a,e,ho=>by
  by_cases h1:bF op=ak
  ·have he:ev NV (.eF op s p q a) e=(ev NV a e).then fun v e1=> .ok v ((s,v)::e1):=by simp only [ev];rw [if_pos h1]
   rw [he]
   exact eU (lD NV a e ho.2.2.2) (fun v e1=>by simp)
  ·have he:ev NV (.eF op s p q a) e=(jZ NV s p e).then fun v e1=>(ev NV a e1).then fun u e2=>(gq (bF op) q v u e2).then fun x e3=> .ok x ((s,x)::e3):=by simp only [ev];rw [if_neg h1]
   rw [he]
   rcases Jd op ho.2.1 ho.1 with h | ⟨h2,h3,h4⟩
   ·exact absurd h h1
   refine eU ?_ (fun v e1=>eU (lD NV a e1 ho.2.2.2) (fun u e2=>eU (xQ h2 h3 h4 q v u e2) (fun x e3=>by simp)))
   unfold jZ
   split
   ·simp
   ·split<;>simp
def gW (v:Int):ByteArray:=⟨(Lib.itoa v).toArray⟩
def iK:Asc→Vl→Vl
 | [],l=>l
 | (k,v)::r,l=>iw k (gW v) (iK r l)
theorem uO {l:Vl} (h:l.lS): ∀e:Asc,(iK e l).lS
 | []=>h
 | (_k,_v)::r=>lU (uO h r)
theorem rJ {l:Vl} (h:l.lS) (s:ByteArray): ∀e:Asc,dX (iK e l) s=match look e s with | some v=>some (gW v) | none=>dX l s
 | []=>rfl
 | (k,v)::r=>by
  show dX (iw k (gW v) (iK r l)) s=_
  rw [wH (uO h r),rJ h s r]
  simp only [look]
  by_cases c:k=s
  ·simp [c]
  ·simp [c]
theorem xR (l:Vl): ∀e:Asc,(iK e l).length≤l.length+e.length
 | []=>Nat.le_refl _
 | (k,v)::r=>by
  have h1:=xR l r
  have h2:(iw k (gW v) (iK r l)).length≤(iK r l).length+1:=uN k (gW v) (iK r l) false
  simp only [iK,List.length_cons]
  omega
def kC (e:Asc):Prop:= ∀x∈e,I64 x.2
theorem kC.look {e:Asc} (h:kC e) {s:ByteArray} {v:Int} (hl:look e s=some v):I64 v:=by
 induction e with
 | nil=>cases hl
 | cons y r ih=>
  obtain ⟨k,u⟩:=y
  simp only [Go.Proofs.YtacfglopionkfaaGreatDoor.look] at hl
  by_cases c:k=s
  ·rw [if_pos c] at hl;cases hl;exact h _ (List.mem_cons_self ..)
  ·rw [if_neg c] at hl;exact ih (fun x hx=>h x (List.mem_cons_of_mem _ hx)) hl
theorem kC.cons {e:Asc} (h:kC e) {s:ByteArray} {v:Int} (hv:I64 v):kC ((s,v)::e):=by
 intro x hx
 rcases List.mem_cons.1 hx with rfl | hx
 ·exact hv
 ·exact h x hx
theorem D5 {op:ByteArray} {v x:Int} {e e':Asc} (h:ig op v e= .ok x e') (he:kC e):I64 x∧kC e':=⟨BR h,by rw [jG h];exact he⟩
theorem J3 {op:ByteArray} {p:Nat} {l r x:Int} {e e':Asc} (h:gq op p l r e= .ok x e') (hl:I64 l) (he:kC e):I64 x∧kC e':=⟨Bv h hl,by rw [l9 h];exact he⟩
theorem Ny {NV:ByteArray→Int × Nat} (qU: ∀n,I64 (NV n).1) {s:ByteArray} {p:Nat} {x:Int} {e e':Asc} (h:jZ NV s p e= .ok x e') (he:kC e):I64 x∧kC e':=by
 refine ⟨?_,by rw [mX h];exact he⟩
 unfold jZ at h
 cases hl:look e s with
 | some v=>
  rw [hl] at h
  simp only [Rv.ok.injEq] at h
  rw [←h.1];exact he.look hl
 | none=>
  rw [hl] at h
  simp only at h
  split at h
  ·simp only [Rv.ok.injEq] at h;rw [←h.1];exact qU s
  ·cases h
theorem qY (NV:ByteArray→Int × Nat) (qU: ∀n,I64 (NV n).1): ∀(t:Tr) (e e':Asc) (v:Int),t.Fits→kC e→ev NV t e= .ok v e'→I64 v∧kC e'
 | .num n p,e,e',v,hf,he,h=>by simp only [ev,Rv.ok.injEq] at h;rw [←h.1, ←h.2];exact ⟨hf,he⟩
 | .name s p,e,e',v,_,he,h=>Ny qU (show jZ NV s p e= .ok v e' from h) he
 | .un op p a,e,e',v,hf,he,h=>by
  obtain ⟨u,e1,h1,h2⟩:=Rv.then_ok (show (ev NV a e).then (fun v e1=>ig op v e1)=_ from h)
  exact D5 h2 (qY NV qU a e e1 u hf he h1).2
 | .bin op p a b,e,e',v,hf,he,h=>by
  obtain ⟨u,e1,h1,h2⟩:=Rv.then_ok (show (ev NV a e).then _=_ from h)
  obtain ⟨i0,i1⟩:=qY NV qU a e e1 u hf.1 he h1
  by_cases c1:op=fV
  ·rw [if_pos c1] at h2
   by_cases c:u=0
   ·rw [if_pos c] at h2;simp only [Rv.ok.injEq] at h2;rw [←h2.1, ←h2.2];exact ⟨by unfold I64;omega,i1⟩
   ·rw [if_neg c] at h2
    obtain ⟨x,e2,j1,j2⟩:=Rv.then_ok h2
    exact D5 j2 (qY NV qU b e1 e2 x hf.2 i1 j1).2
  ·rw [if_neg c1] at h2
   by_cases c2:op=jR
   ·rw [if_pos c2] at h2
    by_cases c:u=0
    ·rw [if_pos c] at h2
     obtain ⟨x,e2,j1,j2⟩:=Rv.then_ok h2
     exact D5 j2 (qY NV qU b e1 e2 x hf.2 i1 j1).2
    ·rw [if_neg c] at h2;simp only [Rv.ok.injEq] at h2;rw [←h2.1, ←h2.2];exact ⟨by unfold I64;omega,i1⟩
   ·rw [if_neg c2] at h2
    obtain ⟨x,e2,j1,j2⟩:=Rv.then_ok h2
    exact J3 j2 i0 (qY NV qU b e1 e2 x hf.2 i1 j1).2
 | .cond op p a b c,e,e',v,hf,he,h=>by
  obtain ⟨u,e1,h1,h2⟩:=Rv.then_ok (show (ev NV a e).then _=_ from h)
  obtain ⟨_,i1⟩:=qY NV qU a e e1 u hf.1 he h1
  by_cases c0:u=0
  ·rw [if_pos c0] at h2;exact qY NV qU c e1 e' v hf.2.2 i1 h2
  ·rw [if_neg c0] at h2;exact qY NV qU b e1 e' v hf.2.1 i1 h2
 | .eF op s p q a,e,e',v,hf,he,h=>by
  by_cases h1:bF op=ak
  ·have hh:ev NV (.eF op s p q a) e=(ev NV a e).then fun v e1=> .ok v ((s,v)::e1):=by simp only [ev];rw [if_pos h1]
   rw [hh] at h
   obtain ⟨u,e1,j1,j2⟩:=Rv.then_ok h
   obtain ⟨i0,i1⟩:=qY NV qU a e e1 u hf.2 he j1
   simp only [Rv.ok.injEq] at j2
   rw [←j2.1, ←j2.2]
   exact ⟨i0,i1.cons i0⟩
  ·have hh:ev NV (.eF op s p q a) e=(jZ NV s p e).then fun v e1=>(ev NV a e1).then fun u e2=>(gq (bF op) q v u e2).then fun x e3=> .ok x ((s,x)::e3):=by simp only [ev];rw [if_neg h1]
   rw [hh] at h
   obtain ⟨u,e1,j1,j2⟩:=Rv.then_ok h
   obtain ⟨i0,i1⟩:=Ny qU j1 he
   obtain ⟨x,e2,k1,k2⟩:=Rv.then_ok j2
   obtain ⟨k3,k4⟩:=qY NV qU a e1 e2 x hf.2 i1 k1
   obtain ⟨y,e3,l1,l2⟩:=Rv.then_ok k2
   obtain ⟨l3,l4⟩:=J3 l1 i0 k4
   simp only [Rv.ok.injEq] at l2
   rw [←l2.1, ←l2.2]
   exact ⟨l3,l4.cons l3⟩
def uM (e:Asc):Prop:= ∀x∈e,rF x.1=true∧x.1.size≤maxLen
theorem Ic {e:Asc} {s:ByteArray} {v:Int} (h:look e s=some v):(s,v)∈e:=by
 induction e with
 | nil=>cases h
 | cons y r ih=>
  obtain ⟨k,u⟩:=y
  simp only [look] at h
  by_cases c:k=s
  ·subst c;rw [if_pos rfl] at h;cases h;exact List.mem_cons_self ..
  ·rw [if_neg c] at h;exact List.mem_cons_of_mem _ (ih h)
theorem uM.look {e:Asc} (h:uM e) {s:ByteArray} {v:Int} (hl:look e s=some v):rF s=true∧s.size≤maxLen:=h _ (Ic hl)
theorem UG {s:ByteArray} (h:uo s):rF s=true:=by
 unfold rF
 rw [decide_eq_true h.1,decide_eq_true h.2]
 rfl
theorem uM.nil:uM []:=fun x hx=>by cases hx
theorem kC.nil:kC []:=fun x hx=>by cases hx
theorem uM.cons {e:Asc} (h:uM e) {s:ByteArray} (hs:uo s) (hl:s.size≤maxLen) (v:Int):uM ((s,v)::e):=by
 intro x hx
 rcases List.mem_cons.1 hx with rfl | hx
 ·exact ⟨UG hs,hl⟩
 ·exact h x hx
theorem vK (NV:ByteArray→Int × Nat): ∀(t:Tr) (e e':Asc) (v:Int),t.Ops→t.Fits→uM e→ev NV t e= .ok v e'→uM e'∧e'.length≤e.length+need t
 | .num n p,e,e',v,_,_,he,h=>by simp only [ev,Rv.ok.injEq] at h;rw [←h.2];exact ⟨he,by simp only [need];omega⟩
 | .name s p,e,e',v,_,_,he,h=>by rw [mX (show jZ NV s p e= .ok v e' from h)];exact ⟨he,by omega⟩
 | .un op p a,e,e',v,ho,hf,he,h=>by
  obtain ⟨u,e1,h1,h2⟩:=Rv.then_ok (show (ev NV a e).then (fun v e1=>ig op v e1)=_ from h)
  obtain ⟨i1,i2⟩:=vK NV a e e1 u ho.2 hf he h1
  rw [jG h2]
  exact ⟨i1,by simp only [need];omega⟩
 | .bin op p a b,e,e',v,ho,hf,he,h=>by
  obtain ⟨u,e1,h1,h2⟩:=Rv.then_ok (show (ev NV a e).then _=_ from h)
  obtain ⟨i1,i2⟩:=vK NV a e e1 u ho.2.1 hf.1 he h1
  by_cases c1:op=fV
  ·rw [if_pos c1] at h2
   by_cases c:u=0
   ·rw [if_pos c] at h2;simp only [Rv.ok.injEq] at h2;rw [←h2.2];exact ⟨i1,by simp only [need];omega⟩
   ·rw [if_neg c] at h2
    obtain ⟨x,e2,j1,j2⟩:=Rv.then_ok h2
    obtain ⟨k1,k2⟩:=vK NV b e1 e2 x ho.2.2 hf.2 i1 j1
    rw [jG j2];exact ⟨k1,by simp only [need];omega⟩
  ·rw [if_neg c1] at h2
   by_cases c2:op=jR
   ·rw [if_pos c2] at h2
    by_cases c:u=0
    ·rw [if_pos c] at h2
     obtain ⟨x,e2,j1,j2⟩:=Rv.then_ok h2
     obtain ⟨k1,k2⟩:=vK NV b e1 e2 x ho.2.2 hf.2 i1 j1
     rw [jG j2];exact ⟨k1,by simp only [need];omega⟩
    ·rw [if_neg c] at h2;simp only [Rv.ok.injEq] at h2;rw [←h2.2];exact ⟨i1,by simp only [need];omega⟩
   ·rw [if_neg c2] at h2
    obtain ⟨x,e2,j1,j2⟩:=Rv.then_ok h2
    obtain ⟨k1,k2⟩:=vK NV b e1 e2 x ho.2.2 hf.2 i1 j1
    rw [l9 j2];exact ⟨k1,by simp only [need];omega⟩
 | .cond op p a b c,e,e',v,ho,hf,he,h=>by
  obtain ⟨u,e1,h1,h2⟩:=Rv.then_ok (show (ev NV a e).then _=_ from h)
  obtain ⟨i1,i2⟩:=vK NV a e e1 u ho.2.1 hf.1 he h1
  by_cases c0:u=0
  ·rw [if_pos c0] at h2
   obtain ⟨k1,k2⟩:=vK NV c e1 e' v ho.2.2.2 hf.2.2 i1 h2
   exact ⟨k1,by simp only [need];omega⟩
  ·rw [if_neg c0] at h2
   obtain ⟨k1,k2⟩:=vK NV b e1 e' v ho.2.2.1 hf.2.1 i1 h2
   exact ⟨k1,by simp only [need];omega⟩
 | .eF op s p q a,e,e',v,ho,hf,he,h=>by
  by_cases h1:bF op=ak
  ·have hh:ev NV (.eF op s p q a) e=(ev NV a e).then fun v e1=> .ok v ((s,v)::e1):=by simp only [ev];rw [if_pos h1]
   rw [hh] at h
   obtain ⟨u,e1,j1,j2⟩:=Rv.then_ok h
   obtain ⟨i0,i1⟩:=vK NV a e e1 u ho.2.2.2 hf.2 he j1
   simp only [Rv.ok.injEq] at j2
   rw [←j2.2]
   exact ⟨i0.cons ho.2.2.1 hf.1 u,by simp only [need,List.length_cons];omega⟩
  ·have hh:ev NV (.eF op s p q a) e=(jZ NV s p e).then fun v e1=>(ev NV a e1).then fun u e2=>(gq (bF op) q v u e2).then fun x e3=> .ok x ((s,x)::e3):=by simp only [ev];rw [if_neg h1]
   rw [hh] at h
   obtain ⟨u,e1,j1,j2⟩:=Rv.then_ok h
   have hq:=mX j1
   subst hq
   obtain ⟨x,e2,k1,k2⟩:=Rv.then_ok j2
   obtain ⟨i0,i1⟩:=vK NV a _ e2 x ho.2.2.2 hf.2 he k1
   obtain ⟨y,e3,l1,l2⟩:=Rv.then_ok k2
   have hq:=l9 l1
   subst hq
   simp only [Rv.ok.injEq] at l2
   rw [←l2.2]
   exact ⟨i0.cons ho.2.2.1 hf.1 y,by simp only [need,List.length_cons];omega⟩
end Go.Proofs.YtacfglopionkfaaGreatDoor
namespace Go.Proofs.YtacfglopionkfaaGreatDoor
set_option maxHeartbeats 8000000
set_option maxRecDepth 100000
open Go.RowKit
theorem yJ {op:ByteArray} {q:Nat} {l r:Int} {e:Asc} {c p:Nat} (h:gq op q l r e= .bad c p):c=12:=by
 unfold gq at h
 split at h
 ·simp only [Rv.bad.injEq] at h;exact h.1.symm
 ·split at h<;>cases h
theorem BX {NV:ByteArray→Int × Nat} (qU: ∀n,(NV n).2≤21) {s:ByteArray} {p:Nat} {e:Asc} {c q:Nat} (h:jZ NV s p e= .bad c q):1≤c∧c≤21:=by
 unfold jZ at h
 split at h
 ·cases h
 ·split at h
  ·cases h
  ·rename_i hh
   simp only [Rv.bad.injEq] at h
   rw [←h.1]
   exact ⟨by omega,qU s⟩
theorem jf (NV:ByteArray→Int × Nat) (qU: ∀n,(NV n).2≤21): ∀(t:Tr) (e:Asc) (c p:Nat),ev NV t e= .bad c p→1≤c∧c≤21
 | .num n q,e,c,p,h=>by simp [ev] at h
 | .name s q,e,c,p,h=>BX qU (show jZ NV s q e=_ from h)
 | .un op q a,e,c,p,h=>by
  rcases Rv.bP (show (ev NV a e).then (fun v e1=>ig op v e1)=_ from h) with h1 | ⟨v,e1,_,h1⟩
  ·exact jf NV qU a e c p h1
  ·exact (lV h1).elim
 | .bin op q a b,e,c,p,h=>by
  rcases Rv.bP (show (ev NV a e).then _=_ from h) with h1 | ⟨v,e1,_,h1⟩
  ·exact jf NV qU a e c p h1
  ·by_cases c1:op=fV
   ·rw [if_pos c1] at h1
    by_cases c0:v=0
    ·rw [if_pos c0] at h1;cases h1
    ·rw [if_neg c0] at h1
     rcases Rv.bP h1 with h2 | ⟨u,e2,_,h2⟩
     ·exact jf NV qU b e1 c p h2
     ·exact (lV h2).elim
   ·rw [if_neg c1] at h1
    by_cases c2:op=jR
    ·rw [if_pos c2] at h1
     by_cases c0:v=0
     ·rw [if_pos c0] at h1
      rcases Rv.bP h1 with h2 | ⟨u,e2,_,h2⟩
      ·exact jf NV qU b e1 c p h2
      ·exact (lV h2).elim
     ·rw [if_neg c0] at h1;cases h1
    ·rw [if_neg c2] at h1
     rcases Rv.bP h1 with h2 | ⟨u,e2,_,h2⟩
     ·exact jf NV qU b e1 c p h2
     ·have:=yJ h2;omega
 | .cond op q a b d,e,c,p,h=>by
  rcases Rv.bP (show (ev NV a e).then _=_ from h) with h1 | ⟨v,e1,_,h1⟩
  ·exact jf NV qU a e c p h1
  ·by_cases c0:v=0
   ·rw [if_pos c0] at h1;exact jf NV qU d e1 c p h1
   ·rw [if_neg c0] at h1;exact jf NV qU b e1 c p h1
 | .eF op s q q2 a,e,c,p,h=>by
  simp only [ev] at h
  by_cases h1:bF op=ak
  ·rw [if_pos h1] at h
   rcases Rv.bP h with h2 | ⟨v,e1,_,h2⟩
   ·exact jf NV qU a e c p h2
   ·cases h2
  ·rw [if_neg h1] at h
   rcases Rv.bP h with h2 | ⟨v,e1,_,h2⟩
   ·exact BX qU h2
   ·rcases Rv.bP h2 with h3 | ⟨u,e2,_,h3⟩
    ·exact jf NV qU a e1 c p h3
    ·rcases Rv.bP h3 with h4 | ⟨x,e3,_,h4⟩
     ·have:=yJ h4;omega
     ·cases h4
theorem nm_opEnds {s:ByteArray} (h:uo s) (r:List Int):zB (bT s++r):=by
 obtain ⟨x,m,e,hf⟩:=ZI h
 rw [e]
 intro x' m' e'
 simp only [List.cons_append,List.cons.injEq] at e'
 rw [←e'.1]
 exact Fst.op (Or.inr (Or.inl hf))
theorem WR {nm:ByteArray} (hn:uo nm) {X:List Int} {P:Tr→Prop} (hX:TF X P) {s:ByteArray} (hs:s∈aF) (ha:fZ s=true) {B:List Int} (hB:B=[]∨B=[32]) (hl:(bT nm++(B++(bT s++X))).length≤1024):
  ∃n q ex t,P ex∧cZ (bT nm++(B++(bT s++X))) n=some (.ok (.eF s nm 0 q ex) t):=by
 obtain ⟨L,hL⟩: ∃L,L=bT nm++(B++(bT s++X)):=⟨_,rfl⟩
 have hlen:=bC nm
 have hbl:=bC s
 have hE:Ends (B++(bT s++X)):=by
  rcases hB with rfl | rfl
  ·exact U8 hs _
  ·exact Ends.cons (by decide)
 have T0:tok L 0=⟨3,0,nm.size,nm,0,false⟩:=by
  have h:=MH (y:=[]) (L:=L) (r:=bT nm++(B++(bT s++X))) (by rw [hL];rfl) (QT hn _)
  rw [List.length_nil,Xz hn _ hE,Nat.zero_add] at h
  exact h
 have hLs:L=(bT nm++B)++(bT s++X):=by rw [hL];simp
 have T1:=U1 (y:=bT nm++B) hs hLs (by have:=hX.ends [];rwa [List.append_nil] at this)
 have T1':tok L nm.size=tok L (bT nm++B).length:=by
  rcases hB with rfl | rfl
  ·simp [hlen]
  ·have:=tok_sp (L:=L) (y:=bT nm) (r:=bT s++X) (by rw [hL];rfl)
   rw [hlen] at this
   rw [this,List.length_append,hlen]
   rfl
 obtain ⟨hk,ex,hex,rx⟩:=hX.at_ L (bT nm++B++bT s) [] (by rw [hL];simp)
 have hq:(bT nm++B++bT s).length+X.length=L.length:=by rw [hL];simp only [List.length_append];omega
 rw [hq,ZE L] at rx
 have hA:=rx.all ZF (fun h=>by rw [hk] at h;exact absurd h (by decide))
 have s0:(tok L 0).stop=nm.size:=by rw [T0]
 have s1:(tok L (bT nm++B).length).stop=(bT nm++B++bT s).length:=by rw [T1];simp only [List.length_append,hbl]
 have R:=yB.asgOf (L:=L) (t:=tok L 0) (t2:=⟨0,L.length,L.length,ak,0,false⟩) (a:=ex) (by rw [T0]) (by rw [s0,T1',T1];exact ha) (by rw [s0,T1',s1];exact hA)
 have e1:(tok L 0).text=nm:=by rw [T0]
 have e2:(tok L 0).start=0:=by rw [T0]
 rw [s0,T1',T1,e1,e2] at R
 obtain ⟨n,h⟩:=ZG R rfl (by rw [hL];exact hl)
 exact ⟨n,_,ex,_,hex,by rw [←hL];exact h⟩
theorem aaY {nm:ByteArray} (hn:uo nm) {X:List Int} {P:Tr→Prop} (hX:TF X P) {s:ByteArray} (h1:1≤dO s) (hl:(bT nm++(bT ⟨#[61]⟩++(bT nm++(bT s++X)))).length≤1024):
  ∃n q p2 q2 ex t,P ex∧cZ (bT nm++(bT ⟨#[61]⟩++(bT nm++(bT s++X)))) n=some (.ok (.eF ⟨#[61]⟩ nm 0 q (.bin s q2 (.name nm p2) ex)) t):=by
 obtain ⟨hs,hna,_⟩:=str_mem h1
 obtain ⟨L,hL⟩: ∃L,L=bT nm++(bT ⟨#[61]⟩++(bT nm++(bT s++X))):=⟨_,rfl⟩
 have hlen:=bC nm
 have hbl:=bC s
 have s61:(⟨#[61]⟩:ByteArray)∈aF:=kQ (by decide)
 have T0:tok L 0=⟨3,0,nm.size,nm,0,false⟩:=by
  have h:=MH (y:=[]) (L:=L) (r:=bT nm++(bT ⟨#[61]⟩++(bT nm++(bT s++X)))) (by rw [hL];rfl) (QT hn _)
  rw [List.length_nil,Xz hn _ (U8 s61 _),Nat.zero_add] at h
  exact h
 have T1:=U1 (y:=bT nm) s61 hL (nm_opEnds hn _)
 obtain ⟨y,hy⟩: ∃y,y=bT nm++bT ⟨#[61]⟩:=⟨_,rfl⟩
 have hyl:y.length=nm.size+1:=by rw [hy,List.length_append,hlen];rfl
 have hLy:L=y++(bT nm++(bT s++X)):=by rw [hL,hy];simp
 have T2:tok L y.length=⟨3,y.length,y.length+nm.size,nm,0,false⟩:=by rw [MH hLy (QT hn _),Xz hn _ (U8 hs _)]
 have R2:yB L .iR (tok L y.length) (.name nm y.length) (tok L (y.length+nm.size)):=by
  rw [T2]
  refine ⟨1,fun k=>?_⟩
  rw [show 1+k=k+1 by omega]
  simp only [rd]
  rw [if_neg (by decide),if_pos trivial]
 have l3:(y++bT nm).length=y.length+nm.size:=by rw [List.length_append,hlen]
 have T3:=U1 (y:=y++bT nm) (L:=L) (r:=X) hs (by rw [hLy];simp) (by have:=hX.ends [];rwa [List.append_nil] at this)
 rw [l3] at T3
 obtain ⟨_,ex,hex,rx⟩:=hX.at_ L (y++bT nm++bT s) [] (by rw [hLy];simp)
 have l4:(y++bT nm++bT s).length=y.length+nm.size+s.size:=by rw [List.length_append,l3,hbl]
 have hq:(y++bT nm++bT s).length+X.length=L.length:=by rw [hLy];simp only [List.length_append];omega
 rw [hq,ZE L,l4] at rx
 have R3:=yB.binOf R2 (by rw [T3];exact h1) (by rw [T3];exact rx) (show dO ak=0 by decide)
 rw [T3] at R3
 have R4:=(R3.cond0 ZF.2.2).expr0 (fun hh=>by
  have s2:(tok L y.length).stop=y.length+nm.size:=by rw [T2]
  rw [s2,T3] at hh
  exact absurd hh.2 (by rw [hna];decide))
 have s0:(tok L 0).stop=(bT nm).length:=by rw [T0,hlen]
 have s1:(tok L (bT nm).length).stop=y.length:=by rw [T1,hy,List.length_append];rfl
 have R:=yB.asgOf (L:=L) (t:=tok L 0) (by rw [T0]) (by rw [s0,T1];exact (by decide:fZ ⟨#[61]⟩=true)) (by rw [s0,s1];exact R4)
 have e1:(tok L 0).text=nm:=by rw [T0]
 have e2:(tok L 0).start=0:=by rw [T0]
 rw [s0,T1,e1,e2] at R
 obtain ⟨n,h⟩:=ZG R rfl (by rw [hL];exact hl)
 exact ⟨n,_,_,_,ex,_,hex,by rw [←hL];exact h⟩
theorem ev_asgE {NV:ByteArray→Int × Nat} {nm:ByteArray} {q:Nat} {ex:Tr} {x:Int} (h:ev NV ex []= .ok x []):ev NV (.eF ⟨#[61]⟩ nm 0 q ex) []= .ok x [(nm,x)]:=by
 simp only [ev]
 rw [if_pos (by decide:bF ⟨#[61]⟩=ak),h]
 rfl
theorem ev_asgB {NV:ByteArray→Int × Nat} {nm:ByteArray} {q:Nat} {ex:Tr} {c p:Nat} (h:ev NV ex []= .bad c p):ev NV (.eF ⟨#[61]⟩ nm 0 q ex) []= .bad c p:=by
 simp only [ev]
 rw [if_pos (by decide:bF ⟨#[61]⟩=ak),h]
 rfl
def Alk (nm:ByteArray) (a b:Rv):Prop:=(∃y,a= .ok y [(nm,y)]∧b= .ok y [(nm,y)])∨ ∃c p p',a= .bad c p∧b= .bad c p'
theorem ev_both {NV:ByteArray→Int × Nat} {nm:ByteArray} {s s2:ByteArray} (hs:bF s2=s) (hne: ¬s=ak) (hm:s∈lN) (h1: ¬s=fV) (h2: ¬s=jR) {ex ex2:Tr} {x:Int} (h:ev NV ex []= .ok x []) (k:ev NV ex2 []= .ok x []) (q q1 q2 p2:Nat):
  Alk nm (ev NV (.eF s2 nm 0 q ex) []) (ev NV (.eF ⟨#[61]⟩ nm 0 q1 (.bin s q2 (.name nm p2) ex2)) []):=by
 have e1:ev NV (.eF s2 nm 0 q ex) []=(jZ NV nm 0 []).then fun v e1=>(ev NV ex e1).then fun u e2=>(gq s q v u e2).then fun x e3=> .ok x ((nm,x)::e3):=by
  simp only [ev]
  rw [if_neg (by rw [hs];exact hne),hs]
 have e2:ev NV (.eF ⟨#[61]⟩ nm 0 q1 (.bin s q2 (.name nm p2) ex2)) []=((jZ NV nm p2 []).then fun v e1=>(ev NV ex2 e1).then fun u e2=>gq s q2 v u e2).then fun v e1=> .ok v ((nm,v)::e1):=by
  simp only [ev,if_neg h1,if_neg h2]
  rw [if_pos (by decide:bF ⟨#[61]⟩=ak)]
 have hl: ∀p,jZ NV nm p []=if (NV nm).2=0 then .ok (NV nm).1 [] else .bad (NV nm).2 p:=fun p=>rfl
 rw [e1,e2,hl,hl]
 by_cases hz:(NV nm).2=0
 ·rw [if_pos hz,if_pos hz]
  simp only [Rv.then]
  rw [h,k]
  simp only []
  have hno:=xQ hm h1 h2 q (NV nm).1 x []
  unfold gq at hno⊢
  by_cases hd:x=0∧(s=Jv∨s=Ju)
  ·rw [if_pos hd,if_pos hd]
   exact Or.inr ⟨12,q,q2,rfl,rfl⟩
  ·rw [if_neg hd] at hno⊢
   rw [if_neg hd]
   cases hr:kK s (NV nm).1 x with
   | none=>rw [hr] at hno;exact absurd rfl hno
   | some y=>exact Or.inl ⟨y,rfl,rfl⟩
 ·rw [if_neg hz,if_neg hz]
  exact Or.inr ⟨_,_,_,rfl,rfl⟩
def tenL:List ByteArray:=[⟨#[43]⟩,⟨#[45]⟩,⟨#[42]⟩,⟨#[47]⟩,⟨#[37]⟩,⟨#[38]⟩,⟨#[124]⟩,⟨#[94]⟩,⟨#[60,60]⟩,⟨#[62,62]⟩]
theorem aaW: ∀s∈tenL,(aF.any fun x=>decide (x=s++⟨#[61]⟩))=true∧fZ (s++⟨#[61]⟩)=true∧bF (s++⟨#[61]⟩)=s∧ ¬s=ak∧(lN.any fun x=>decide (x=s))=true∧ ¬s=fV∧ ¬s=jR∧1≤dO s∧s.size≤2:=by decide
theorem any_mem {l:List ByteArray} {s:ByteArray} (h:(l.any fun x=>decide (x=s))=true):s∈l:=by
 obtain ⟨x,hx,he⟩:=List.any_eq_true.1 h
 have:=of_decide_eq_true he
 subst this
 exact hx
end Go.Proofs.YtacfglopionkfaaGreatDoor
namespace Go.Proofs.YtacfglopionkfaaGreatDoor
set_option maxHeartbeats 8000000
set_option maxRecDepth 100000
open Go.RowKit Go.WideMaps Go.Maps
theorem CQ {w w':World} {k:TypeId} {R:Value→Option (DataW Unit × List MemPlace)} {b r n:Nat} {D:DataW Unit} {left:Lit→Bool} {cnt:Nat} (h:w.ranges Tryz.prog k R b r n D left cnt) (hb:w'.heap[b]? =w.heap[b]?) (hr:w'.heap[r]? =w.heap[r]?):w'.ranges Tryz.prog k R b r n D left cnt:=by
 obtain ⟨es,clock,since,seen,c0,h1,F,hs,hD,h2,rest⟩:=h
 exact ⟨es,clock,since,seen,c0,hb.trans h1,F,hs,hD,hr.trans h2,rest⟩
theorem KQ {w:World} {k:TypeId} {R:Value→Option (DataW Unit × List MemPlace)} {b n:Nat} {D:DataW Unit} (h:w.ownsMap Tryz.prog k R b n D):Maps.size D≤n:=by
 obtain ⟨es,clock,_,F,hs,rfl⟩:=h
 simpa [Maps.size,length_sorted] using hs
theorem KL.UF {x:ByteArray} {kl:Lit} (h:keyOf Tryz.prog 9 (.string x)=some kl):kl=KL x:=by
 have hk:Tryz.prog.underlying 9=some .string:=Tryz.underlying9
 simp [keyOf,hk,mapKey] at h
 unfold KL
 first | exact h.symm | exact h.2.symm | exact h.1.symm
theorem KL.same (s:ByteArray):(KL s).sameKey (KL s)=true:=WideAt.sameKey_self (show WideAt.IsKeyLit (KL s) from trivial)
theorem Rep.Qb {D:DataW Unit} {e:Asc} (h:Rep D e) {x:ByteArray} {y:DataW Unit} (hat: ∀zd,D.atKey (KL x) zd=y): ∃v,look e x=some v∧y= .lit (.int .i64 v):=by
 obtain ⟨h1,h2⟩:=h x
 cases hl:look e x with
 | some v=>exact ⟨v,rfl,(hat (.lit (.bool true))).symm.trans (h2 v hl _)⟩
 | none=>
  rw [hl] at h1
  have hh:Maps.has D (KL x)=false:=h1
  have e1:=hat (.lit (.bool true))
  have e2:=hat (.lit (.bool false))
  rw [atKey_of_not_has hh] at e1 e2
  rw [←e1] at e2
  cases e2
structure Np (vb mp N:Nat) (mo:Option Nat) (l:Vl) (e:Asc) (D:DataW Unit) (X:World) (lr:Lit→Bool) (cr:Nat) (lv:Lit→Bool) (cv:Nat) (Y:World):Prop where
 rg:Y.ranges Tryz.prog 9 (plainElem (H:=Unit) Tryz.prog 2) mp X.heap.size e.length D lr cr
 va: ∃jq N' L',aZ Y vb jq N' L'∧N'+cv≤N+e.length∧(jq=mo∨(mo=none∧ ∃b,jq=some b∧X.heap.size<b))∧ ∀s,dX L' s=if Maps.has D (KL s)=true∧lv (KL s)=false then (look e s).map gW else dX l s
 bu:But (VB vb mo) X Y
theorem Np.below {vb mp N:Nat} {mo:Option Nat} {l:Vl} {e:Asc} {D:DataW Unit} {X:World} {lr lv:Lit→Bool} {cr cv:Nat} {Y Y':World} (h:Np vb mp N mo l e D X lr cr lv cv Y) (hb:Below Y.heap.size Y Y'):Np vb mp N mo l e D X lr cr lv cv Y' where
 rg:=h.rg.kept (oZ hb) (by simp) (by simp)
 va:=by
  obtain ⟨jq,N',L',h1,h2⟩:=h.va
  exact ⟨jq,N',L',h1.below hb,h2⟩
 bu:=h.bu.trans (But.of_below (P:=VB vb mo) hb) (fun _ _ k=>k) (fun _ _ k=>k)
theorem UH {vb mp N:Nat} {mo:Option Nat} {l:Vl} {e:Asc} {D:DataW Unit} {X:World} {lr lv:Lit→Bool} {cr cv c2:Nat} {Y:World} {x:ByteArray} {v:Int} (h:Np vb mp N mo l e D X lr cr lv cv Y)
  (hvb:vb<X.heap.size) (hmo: ∀b,mo=some b→b<X.heap.size∧b≠mp) (hmp:mp<X.heap.size∧mp≠vb) (hN:N+e.length≤maxLen) (hx:look e x=some v) (hd:Maps.has D (KL x)=true) (hnm:rF x=true) (hsz:x.size≤maxLen) (hc:c2<cv):
  Calls Tryz.prog 17 #[.pointer (some ⟨vb,0,none⟩),.string x,.string (gW v)] Y fun ex w'=>ex= .returned (.bool true)∧Np vb mp N mo l e D X lr cr (fun z=>lv z && !z.sameKey (KL x)) c2 w':=by
 obtain ⟨jq,N',L',h1,h2,h3,h4⟩:=h.va
 refine (set_any vb N' jq L' x (gW v) Y h1 (by omega) hsz).mono ?_
 rintro ex w' ⟨rfl,⟨mo2,g1,g2⟩,hb⟩
 rw [if_pos hnm] at g2
 have hrl:=h.rg.lt
 have hml:mp<Y.heap.size:=h.rg.owns.lt
 have hnot: ∀k,k<Y.heap.size→k≠vb→some k≠jq→w'.heap[k]? =Y.heap[k]? :=fun k hk h1 h2=>hb.block k hk (fun q=>q.elim h1 h2)
 have Tf: ∀b,jq=some b→b≠mp∧b≠X.heap.size∧(mo=some b∨X.heap.size<b):=by
  intro b e
  rcases h3 with rfl | ⟨_,b',e',hlt⟩
  ·have:=hmo b e
   exact ⟨this.2,by omega,Or.inl e⟩
  ·rw [e'] at e
   have:=Option.some.inj e
   exact ⟨by omega,by omega,Or.inr (by omega)⟩
 refine ⟨by rw [hnm],⟨CQ h.rg (hnot mp hml hmp.2 (fun e=>(Tf mp e.symm).1 rfl)) (hnot _ hrl (by omega) (fun e=>(Tf _ e.symm).2.1 rfl)),⟨mo2,N'+1,_,g2,by omega,?_,fun s=>?_⟩,?_⟩⟩
 ·rcases g1 with rfl | ⟨e1,b,e2,hlt⟩
  ·exact h3
  ·rcases h3 with rfl | ⟨e3,b',e',_⟩
   ·exact Or.inr ⟨e1,b,e2,by omega⟩
   ·rw [e'] at e1;cases e1
 ·rw [wH h1.F9,h4 s]
  by_cases c:x=s
  ·subst c
   rw [if_pos rfl,if_pos ⟨hd,by rw [KL.same];simp⟩,hx]
   rfl
  ·rw [if_neg c]
   have:(KL s).sameKey (KL x)=false:=sameKey_ne (fun h=>c (KL.inj h).symm)
   simp only [this,Bool.not_false,Bool.and_true]
 ·refine h.bu.trans hb (fun _ _ k=>k) (fun i hi q=>?_)
  rcases q with q | q
  ·exact Or.inl q
  ·rcases (Tf i q.symm).2.2 with e | e
   ·exact Or.inr e.symm
   ·omega
theorem Ig (B mb mp vb N:Nat) (mo:Option Nat) (l:Vl) (w0 X:World) (m:Ms) (s:Nat) (h:bf B mb mp (some ⟨vb,0,none⟩) w0 m s X) (hva:aZ X vb mo N l) (hvb:vb<B) (hmo: ∀b,mo=some b→b<B) (hI:kC m.se) (hNm:uM m.se) (hN:N+m.se.length≤maxLen) (htp: ∀Y,But (VB vb mo) X Y→TP Y):
  Calls Tryz.prog 65 #[.pointer (some ⟨mb,0,none⟩)] X fun e w'=>e= .returned (.tuple #[])∧bf B mb mp (some ⟨vb,0,none⟩) w' m s w'∧But (VB vb mo) X w'∧ ∃jq N',aZ w' vb jq N' (iK m.se l)∧N'≤N+m.se.length∧(jq=mo∨(mo=none∧ ∃b,jq=some b∧X.heap.size≤b)):=by
 have HR:=Lib.hid h
 obtain ⟨D,hown,hrep⟩:=h.se
 have AY:=Lib.hid htp
 have DT:=Lib.hid hrep
 have HI:=Lib.hid hI
 have xk:=Lib.hid hNm
 have hsz:=h.size
 obtain ⟨st,hm,_⟩:=h.ma
 have c0:=hm.vs
 have c1:=hm.ms
 have Du:=hm.lt
 have hlo:=h.lo
 have hmpl:mp<X.heap.size:=hown.lt
 have HP:Hid (vb<X.heap.size∧(∀b,mo=some b→b<X.heap.size∧b≠mp)∧mp<X.heap.size∧mp≠vb):=Lib.hid ⟨by omega,fun b e=>by have:=hmo b e;exact ⟨by omega,by omega⟩,by omega,by omega⟩
 have HMB:Hid (mb<X.heap.size∧ ¬VB vb mo mb):=Lib.hid ⟨Du,fun q=>q.elim (fun e=>by omega) (fun e=>by have:=hmo mb e.symm;omega)⟩
 have HMP:Hid (¬VB vb mo mp):=Lib.hid (fun q=>q.elim (fun e=>by omega) (fun e=>by have:=hmo mp e.symm;omega))
 have HNN:Hid (N+m.se.length≤maxLen):=Lib.hid hN
 have HSD:Hid (Maps.size D≤m.se.length):=Lib.hid (KQ hown)
 have Gg:=Lib.hid hva
 have Nu:Hid (∀Y,But (VB vb mo) X Y→Y.cell? ⟨mb,0,none⟩=some (.pointer (some ⟨vb,0,none⟩))):=Lib.hid (fun Y hY=>by rw [World.cell?_of_block (w:=X) (hY.block mb Du HMB.out.2)];exact c0)
 clear h hrep htp hm hva hvb hmo hI hNm hN hsz hlo hmpl Du
 go_enter Tryz.func65,Tryz.ntmps65
 go_wp2_with (first | (at_range;refine wpList_range_own _ rfl _ 118 rfl 9 2 rM Tryz.underlying118 _ mp _ _ rfl hown ?_;intro w1 hrg hg hs))
 go_frame
 have hbl:Below X.heap.size X w1:=(Below.refl _ _).grown hg (Nat.le_refl _) (fun k hk=>by cases hk)
 have HI0:Hid (Np vb mp N mo l m.se D X (Maps.has D) (Maps.size D) (Maps.has D) (Maps.size D) w1):=Lib.hid ⟨hrg,⟨mo,N,l,Gg.out.below hbl,by have:=HSD.out;omega,Or.inl rfl,fun s=>(by rw [if_neg (by rintro ⟨e1,e2⟩;rw [e1] at e2;cases e2)])⟩,But.of_below hbl⟩
 clear hrg hg hbl hown c1 c0 hs
 go_loopw [2] (fun _ wr=> ∃(left:Lit→Bool) (cnt:Nat),Np vb mp N mo l m.se D X left cnt left cnt wr) (fun _ wr=>wr.rangeLeft mp X.heap.size)
 case atStart=>exact ⟨_,_,HI0.out⟩
 case round=>
  obtain ⟨left,cnt,hki⟩:=hrel
  have WJ:=Lib.hid hki
  have hrg:=hki.rg
  clear hki HI0
  go_wp2_with (first | (at_next;refine wpList_next_ranges _ rfl _ rfl 9 rM (plainElem (H:=Unit) Tryz.prog 2) Value.string (Value.int .i64) (fun key kl hk=>?_) (fun u y hu=>?_) mp X.heap.size m.se.length D left cnt rfl hrg ?_ ?_))
  ·exact BZ hk
  ·obtain ⟨c,rfl,_⟩:=plainElem_int_inv Tryz.underlying2 hu
   exact ⟨c,rfl⟩
  ·intro hc0 hl0
   have HF:Hid (bf B mb mp (some ⟨vb,0,none⟩) wr m s wr∧But (VB vb mo) X wr∧ ∃jq N',aZ wr vb jq N' (iK m.se l)∧N'≤N+m.se.length∧(jq=mo∨(mo=none∧ ∃b,jq=some b∧X.heap.size≤b))):=Lib.hid (by
    have hbu:=WJ.out.bu
    refine ⟨⟨HR.out.ma.same (hbu.block mb HMB.out.1 HMB.out.2),HR.out.se.same (hbu.block mp HP.out.2.2.1 HMP.out),Below.refl _ _,HR.out.lo⟩,hbu,?_⟩
    obtain ⟨jq,N',L',h1,h2,h3,h4⟩:=WJ.out.va
    have hL:L'=iK m.se l:=Cm h1.F9 (uO Gg.out.F9 _) (fun s=>by
     rw [h4 s,rJ Gg.out.F9,hl0,(DT.out s).1]
     cases look m.se s with
     | none=>simp
     | some v=>simp)
    rw [hL] at h1
    refine ⟨jq,N',h1,by omega,?_⟩
    rcases h3 with h3 | ⟨h3,b,h5,h6⟩
    ·exact Or.inl h3
    ·exact Or.inr ⟨h3,b,h5,by omega⟩)
   clear WJ hrg hc0 hl0
   go_wp2_with fail
   go_end0
   exact ⟨rfl,HF.out⟩
  ·intro x c kl yd yp w2 cnt2 hkey hlk YD hat hrg2 hlt hg2 hs2 hen
   obtain rfl:=KL.UF hkey
   obtain ⟨c',ec,VJ,hwc⟩:=plainElem_int_inv Tryz.underlying2 YD
   obtain rfl:c=c':=by injection ec
   obtain ⟨v,hlx,hyv⟩:=DT.out.Qb hat
   have hvc:v=c:=by
    first
     | (rw [hyv] at VJ;injection VJ with q1 q2;injection q1 with q3;injection q3 with q4 q5)
     | (rw [hyv] at VJ;simpa using VJ)
     | (subst hyv;simpa using VJ)
   subst hvc
   obtain ⟨hc0,hc1⟩:=HI.out.look hlx
   have Za:rF x=true∧x.size≤maxLen:=xk.out.look hlx
   have hdx:Maps.has D (KL x)=true:=by rw [(DT.out x).1,hlx];rfl
   have fD:Hid (Np vb mp N mo l m.se D X (fun z=>left z && !z.sameKey (KL x)) cnt2 left cnt w2):=Lib.hid ⟨hrg2,by
    obtain ⟨jq,N',L',h1,h2,h3,h4⟩:=WJ.out.va
    refine ⟨jq,N',L',h1.same (hg2.block vb h1.lt (fun e=>?_)) (fun b e=>hg2.block b (h1.VI e) (fun e'=>?_)),h2,h3,h4⟩
    ·have:=Option.some.inj e
     have:=HP.out.1
     omega
    ·have e2:=Option.some.inj e'
     rcases h3 with rfl | ⟨_,b',e3,hlt'⟩
     ·have:=(HP.out.2.1 b e).1;omega
     ·rw [e3] at e;have:=Option.some.inj e;omega,WJ.out.bu.grown hg2 (fun k hk hlt=>by have:=Option.some.inj hk;omega)⟩
   have Bj:Hid (∀Y,But (VB vb mo) X Y→Calls Tryz.prog 99 #[.int .i64 v] Y fun e w'=>e= .returned (.string (gW v))∧Below Y.heap.size Y w'):=Lib.hid (fun Y hY=>qL v Y hc0 hc1 (AY.out Y hY))
   have HLT:Hid (cnt2<cnt):=Lib.hid hlt
   have Jl:Hid (wr.rangeLeft mp X.heap.size=cnt):=Lib.hid hrg.left_eq
   have HLX:=Lib.hid hlx
   have HDX:=Lib.hid hdx
   have SG:=Lib.hid Za
   clear hkey hlk YD hat hrg2 hlt hg2 hs2 VJ hwc ec hrg hc0 hc1 Za hdx hlx WJ hyv
   go_wp2_with fail
   refine Reg.aJ (fun Lq _ Y=>(Lq 7=false→Np vb mp N mo l m.se D X (fun z=>left z && !z.sameKey (KL x)) cnt2 left cnt Y)∧(Lq 7=true→Np vb mp N mo l m.se D X (fun z=>left z && !z.sameKey (KL x)) cnt2 (fun z=>left z && !z.sameKey (KL x)) cnt2 Y)) (fun j=>([some (.pointer (some ⟨mb,0,none⟩)),some (.pointer (some ⟨mb,0,none⟩)),some (.pointer (some ⟨mb,0,none⟩)),some (.pointer (some ⟨vb,0,none⟩)),some (.string x),some (.int .i64 v),some (.string (gW v)),some (.bool true)]:List (Option Value)).getD j none) (by kernel_rfl) (by kernel_rfl) (by kernel_rfl) (by kernel_rfl) ?iY ?rsE ?iW
   case iY=>exact ⟨fun _=>fD.out.below (Below.refl _ _).drew,fun h=>(by cases h)⟩
   case rsE=>
    refine Reg.au.plain rfl (fun L u T Y hL hz hS hk K hK=>?_) ?_
    ·have g0:=hk.old 0 rfl
     have hK:=hK _ Y hS (fun _ hx=>Option.some.inj hx)
     clear hk hz hL
     go_simp
     exact hK
    refine Reg.au.plain rfl (fun L u T Y hL hz hS hk K hK=>?_) ?_
    ·have g14:=hk.val 0 14 rfl
     have hP:=hS.1 (hz 7 (by kernel_rfl))
     have c0:=Nu.out Y hP.bu
     have hK:=hK _ Y hS (fun _ hx=>Option.some.inj hx)
     clear hk hz hL hS hP
     go_simp
     exact hK
    refine Reg.au.plain rfl (fun L u T Y hL hz hS hk K hK=>?_) ?_
    ·have g15:=hk.val 1 15 rfl
     have hP:=hS.1 (hz 7 (by kernel_rfl))
     have c0:=Nu.out Y hP.bu
     have hml:=nZ c0
     have hK:=hK _ Y hS (fun _ hx=>Option.some.inj hx)
     clear hk hz hL hS hP
     go_simp
     exact hK
    refine Reg.au.plain rfl (fun L u T Y hL hz hS hk K hK=>?_) ?_
    ·have g16:=hk.val 2 16 rfl
     have hP:=hS.1 (hz 7 (by kernel_rfl))
     have c0:=Nu.out Y hP.bu
     have hK:=hK _ Y hS (fun _ hx=>Option.some.inj hx)
     clear hk hz hL hS hP
     go_simp
     exact hK
    refine Reg.au.plain rfl (fun L u T Y hL hz hS hk K hK=>?_) ?_
    ·have g2:=hk.old 2 rfl
     have hK:=hK _ Y hS (fun _ hx=>Option.some.inj hx)
     clear hk hz hL
     go_simp
     exact hK
    refine Reg.au.plain rfl (fun L u T Y hL hz hS hk K hK=>?_) ?_
    ·have g3:=hk.old 3 rfl
     have hK:=hK _ Y hS (fun _ hx=>Option.some.inj hx)
     clear hk hz hL
     go_simp
     exact hK
    refine Reg.au.plain rfl (fun L u T Y hL hz hS hk K hK=>?_) ?_
    ·have g19:=hk.val 5 19 rfl
     have hP:=hS.1 (hz 7 (by kernel_rfl))
     have h7:=hz 7 (by kernel_rfl)
     clear hk hz
     go_simp
     refine (Bj.out Y hP.bu).mono ?_
     rintro e w' ⟨rfl,hb⟩
     exact hK _ w' ⟨fun _=>hP.below hb,fun h=>(by rw [Reg.upd_ne _ _ (by decide),h7] at h;cases h)⟩ (fun _ hx=>Option.some.inj hx)
    refine Reg.au.plain rfl (fun L u T Y hL hz hS hk K hK=>?_) ?_
    ·have g17:=hk.val 3 17 rfl
     have g18:=hk.val 4 18 rfl
     have g20:=hk.val 6 20 rfl
     have hP:=hS.1 hL
     clear hk hz
     go_simp
     refine (UH hP HP.out.1 HP.out.2.1 HP.out.2.2 HNN.out HLX.out HDX.out SG.out.1 SG.out.2 HLT.out).mono ?_
     rintro e w' ⟨rfl,h'⟩
     exact hK _ w' ⟨fun h=>(by rw [Reg.upd_same] at h;cases h),fun _=>h'⟩ (fun _ hx=>Option.some.inj hx)
    exact Reg.au.nil
   case iW=>
    intro L u w5 hL hS hI
    have e0:=hI 0 (by decide) _ rfl
    have e1:=hI 1 (by decide) _ rfl
    have e2:=hI 2 (by decide) _ rfl
    have e3:=hI 3 (by decide) _ rfl
    have e4:=hI 4 (by decide) _ rfl
    have e5:=hI 5 (by decide) _ rfl
    have e6:=hI 6 (by decide) _ rfl
    have e7:=hI 7 (by decide) _ rfl
    clear hI
    simp only [Reg.aK,Act.put,List.setIfInBounds_toArray,List.set_cons_succ,List.set_cons_zero,Nat.zero_add,Nat.reduceAdd,e0,e1,e2,e3,e4,e5,e6,e7]
    clear e0 e1 e2 e3 e4 e5 e6 e7
    have hfin:=hS.2 (hL 7 (by decide))
    have dZ:=Lib.hid hfin
    clear hfin hS hL
    go_wp2_with fail
    go_roundw
    case rel=>exact ⟨_,cnt2,dZ.out⟩
    case measure=>rw [dZ.out.rg.left_eq,Jl.out];exact HLT.out
end Go.Proofs.YtacfglopionkfaaGreatDoor
namespace Go.Proofs.YtacfglopionkfaaGreatDoor
set_option maxHeartbeats 8000000
set_option maxRecDepth 100000
open Go.RowKit Go.WideMaps Go.Maps
def Nk:Rv→Vl→Vl
 | .ok _ e,l=>iK e l
 | .bad _ _,l=>l
 | .no,l=>l
structure ZX (w:World) (vb N:Nat) (mo:Option Nat) (l:Vl) (sn:Nat→Addr) (rv:Rv) (e:Ending) (w':World):Prop where
 val:Ol sn rv e w'
 bu:But (VB vb mo) w w'
 va: ∃jq N',aZ w' vb jq N' (Nk rv l)∧N'≤N+2000∧(jq=mo∨(mo=none∧ ∃b,jq=some b∧w.heap.size≤b))
theorem KW (c:Nat) (t:Tr) (vb N:Nat) (mo:Option Nat) (l:Vl) (w:World) (sn:Nat→Addr) (hc:jW w c (comp t 0)) (hva:aZ w vb mo N l) (hz: ∀x∈l,x.2.size≤9223372036854775807) (hsn:Er w sn) (htp: ∀Y,But (VB vb mo) w Y→TP Y)
  (hfit:t.Fits) (hops:t.Ops) (tJ:need t≤1024) (hlen:(comp t 0).length≤900000) (hN:N≤1000000) (rv:Rv) (hev:ev (fun n=>numOf (jB l n)) t []=rv):
  Calls Tryz.prog 30 #[.pointer (some ⟨c,0,none⟩),.pointer (some ⟨vb,0,none⟩)] w fun e w'=>ZX w vb N mo l sn rv e w':=by
 have hE:=Nc vb N mo l w hva hz (htp w (But.refl _ _))
 have hno:rv≠ .no:=by rw [←hev];exact lD _ t [] hops
 have Gm:=Lib.hid (xW c _ w hc (mD t 0))
 have xk:=Lib.hid (nM (some ⟨vb,0,none⟩) w)
 obtain ⟨g,cap,cur,hcode,hcap,hgl,hg,hat⟩:=hc.parts (mD t 0)
 obtain ⟨f,hrun,hf⟩: ∃f,(∃r,runs (fun n=>numOf (jB l n)) (comp t 0) r ⟨0,[],[]⟩=some f)∧((∃x e,rv= .ok x e∧f= .go ⟨(comp t 0).length,[x],e⟩)∨ ∃a p,rv= .bad a p∧f= .bad a p):=by
  cases rv with
  | ok x e=>exact ⟨_,Dv tJ hev,Or.inl ⟨x,e,rfl,rfl⟩⟩
  | bad a p=>exact ⟨_,zQ tJ hev,Or.inr ⟨a,p,rfl,rfl⟩⟩
  | no=>exact absurd rfl hno
 have xK:Hid (∀x e,rv= .ok x e→kC e∧uM e∧e.length≤1024):=Lib.hid (fun x e h=>by
  rw [h] at hev
  obtain ⟨i1,i2⟩:=vK _ t [] e x hops hfit uM.nil hev
  exact ⟨(qY _ (fun n=>(jc _).1) t [] e x hfit kC.nil hev).2,i1,by simp only [List.length_nil] at i2;omega⟩)
 obtain ⟨r,hr⟩:=hrun
 have JD:Hid (∀X,bf w.heap.size (w.heap.size+1) w.heap.size (some ⟨vb,0,none⟩) w ⟨0,[],[]⟩ 0 X→Calls Tryz.prog 63 #[.pointer (some ⟨w.heap.size+1,0,none⟩),.slice (some ⟨g,0,none⟩) (comp t 0).length cap] X fun e w'=>NM w.heap.size (w.heap.size+1) w.heap.size (some ⟨vb,0,none⟩) w sn (comp t 0).length f e w'):=Lib.hid (fun X hX=>
  run_any w.heap.size (w.heap.size+1) w.heap.size (some ⟨vb,0,none⟩) w X (jB l) (fun n=>numOf (jB l n)) sn hE (fun Y hY=>hsn.below hY) (comp t 0) _ ⟨g,cap,cur,rfl,hcap,hgl,hg,hat⟩ (dH t 0 hfit) hlen r _ f 0 ⟨hr,hX,⟨fun x hx=>by simp at hx,by simp,Nat.le_refl _⟩,Nat.le_refl _⟩)
 have AY:=Lib.hid htp
 have HF:=Lib.hid hf
 have Gg:=Lib.hid hva
 have HN:=Lib.hid hN
 have Yw:=Lib.hid hcode
 have hn0: ¬(comp t 0).length=0:=fun e=>mD t 0 (List.length_eq_zero_iff.1 e)
 clear hc hE hsn htp hfit hops tJ hev hno hcode hat hg hr hf hlen hva hz hN
 generalize (comp t 0).length=len at*
 have hne:decide ((len:Int)=0)=false:=decide_eq_false (by omega)
 have hne2:decide (len=0)=false:=decide_eq_false hn0
 go_enter Tryz.func30,Tryz.ntmps30
 go_wp2_with fail
 refine Gm.out.mono ?_
 rintro e w0 ⟨rfl,rfl⟩
 go_wp2_with fail
 refine xk.out.mono ?_
 rintro e w1 ⟨rfl,hr1⟩
 have HR1:=Lib.hid hr1
 obtain ⟨c0,_,hz⟩:=bU (jg Yw.out hr1.ch)
 clear hr1
 go_wp2_with fail
 refine (JD.out w1 HR1.out).mono ?_
 intro e w2 hq
 clear c0 hz
 rcases HF.out with ⟨x,e',rC,rfl⟩ | ⟨a,p,rC,rfl⟩
 ·obtain ⟨rfl,⟨s,hr2⟩,hm2,_⟩:=hq
  obtain ⟨v1,v2,v3⟩:=xK.out x e' rC
  have hb2:But (VB vb mo) w w2:=But.of_below hr2.ch
  have JG:Hid (Calls Tryz.prog 65 #[.pointer (some ⟨w.heap.size+1,0,none⟩)] w2 fun e w'=>e= .returned (.tuple #[])∧bf w.heap.size (w.heap.size+1) w.heap.size (some ⟨vb,0,none⟩) w' ⟨len,[x],e'⟩ s w'∧But (VB vb mo) w2 w'∧ ∃jq N',aZ w' vb jq N' (iK e' l)∧N'≤N+e'.length∧(jq=mo∨(mo=none∧ ∃b,jq=some b∧w2.heap.size≤b))):=Lib.hid
   (Ig _ _ _ vb N mo l w w2 _ s hr2 (Gg.out.below hr2.ch) Gg.out.lt (fun b e=>Gg.out.VI e) v1 v2 (by have:=HN.out;unfold maxLen;simp only;omega) (fun Y hY=>AY.out Y (hb2.trans hY (fun _ _ k=>k) (fun _ _ k=>k))))
  have SC:=Lib.hid rC
  have HB2:=Lib.hid hb2
  have Jl:=Lib.hid v3
  have HM2:Hid (w.heap.size+1<w2.heap.size):=Lib.hid hr2.ma.lt
  clear hr2 hm2 rC v1 v2 v3 hb2
  go_wp2_with fail
  refine JG.out.mono ?_
  rintro e w3 ⟨rfl,hr3,hb3,YU⟩
  have HR3:=Lib.hid hr3
  have HB3:=Lib.hid hb3
  have Nr:=Lib.hid YU
  clear hr3 hb3 YU
  go_wp2_with fail
  refine (tC _ _ _ (some ⟨vb,0,none⟩) w3 _ x [] e' s w3 HR3.out (by simp)).mono ?_
  rintro e w4 ⟨rfl,_,hc4⟩
  have Aq:=Lib.hid hc4
  clear hc4
  go_wp2_with fail
  go_ret2
  rw [SC.out]
  have hvl:=Gg.out.lt
  refine ⟨rfl,?_,?_⟩
  ·refine (HB2.out.trans HB3.out (R:=VB vb mo) (fun _ _ k=>k) (fun _ _ k=>k)).trans (Q:=fun i=>i=w.heap.size+1) ⟨Aq.out.1.os,Aq.out.1.tape,Aq.out.1.output,Aq.out.1.size,fun i hi hn=>Aq.out.2 i hi hn⟩ (fun _ _ k=>k) (fun i hi q=>by omega)
  ·obtain ⟨jq,N',h1,h2,h3⟩:=Nr.out
   refine ⟨jq,N',h1.same (Aq.out.2 vb h1.lt (by omega)) (fun b e=>Aq.out.2 b (h1.VI e) ?_),by have:=Jl.out;omega,?_⟩
   ·rcases h3 with rfl | ⟨_,b',e',hlt⟩
    ·have:=Gg.out.VI e;omega
    ·rw [e'] at e;have:=Option.some.inj e;have:=HM2.out;omega
   ·rcases h3 with h3 | ⟨h3,b',e',hlt⟩
    ·exact Or.inl h3
    ·exact Or.inr ⟨h3,b',e',by have:=HB2.out.size;omega⟩
 ·obtain ⟨pv,rfl,her,hb⟩:=hq
  have DC:=Lib.hid her
  have HB:=Lib.hid hb
  have SC:=Lib.hid rC
  clear her hb rC
  go_wp2_with fail
  go_ret2
  rw [SC.out]
  exact ⟨⟨pv,rfl,DC.out⟩,But.of_below HB.out,mo,N,Gg.out.below HB.out,by omega,Or.inl rfl⟩
theorem Nh (bv:Value) (b:List Int) (n:Nat) (t:Tr) (k:Tk) (vb N:Nat) (mo:Option Nat) (l:Vl) (w:World) (sn:Nat→Addr) (hp:cZ b n=some (.ok t k)) (hb:nN b) (hs:Sl w bv b) (hsn:Er w sn) (hva:aZ w vb mo N l) (hz: ∀x∈l,x.2.size≤9223372036854775807) (htp: ∀Y,But (VB vb mo) w Y→TP Y)
  (hN:N≤1000000) (rv:Rv) (hev:ev (fun n=>numOf (jB l n)) t []=rv):
  Calls Tryz.prog 24 #[bv,.pointer (some ⟨vb,0,none⟩)] w fun e w'=>ZX w vb N mo l sn rv e w':=by
 obtain ⟨oa,cap,rfl⟩:=lX hs
 obtain ⟨hwf,_,hl⟩:=lJ hp
 have hops:=pV hb hp
 have hsz:=oP hp
 have hns:=gK t
 have hcn:=eG t 0
 have hfit:=iM 32768 (by decide) t hops (pW hp)
 have Ns:=Lib.hid (xG _ b n t k sn w hp hs hsn)
 have vH:Hid (∀E X,xO X E t→Calls Tryz.prog 26 #[.pointer (some ⟨E,0,none⟩)] X fun x w'=>(∃c,x= .returned (.pointer (some ⟨c,0,none⟩))∧jW w' c (comp t 0))∧Below X.heap.size X w'):=Lib.hid (fun E X hX=>uz E t X hX hwf hops (by omega))
 have JD:Hid (∀c X,Below w.heap.size w X→jW X c (comp t 0)→Calls Tryz.prog 30 #[.pointer (some ⟨c,0,none⟩),.pointer (some ⟨vb,0,none⟩)] X fun e w'=>ZX X vb N mo l sn rv e w'):=Lib.hid (fun c X hX hc=>KW c t vb N mo l X sn hc (hva.below hX) hz (hsn.below hX) (fun Y hY=>htp Y ((But.of_below hX).trans hY (fun _ _ k=>k) (fun _ _ k=>k))) hfit hops (by omega) (by omega) hN rv hev)
 have HNO:Hid (rv≠ .no):=Lib.hid (by rw [←hev];exact lD _ t [] hops)
 clear hp hb hs hsn htp hev hwf hops hsz hns hcn hfit hva hz hN
 go_enter Tryz.func24,Tryz.ntmps24
 go_wp2_with fail
 refine Ns.out.mono ?_
 rintro e w1 ⟨⟨E,rfl,hE⟩,hb1⟩
 have HEX:=Lib.hid hE
 have HB1:=Lib.hid hb1
 clear hE hb1
 go_wp2_with fail
 refine (vH.out E w1 HEX.out).mono ?_
 rintro e w2 ⟨⟨c,rfl,hc⟩,hb2⟩
 have HC:=Lib.hid hc
 have HB2:=Lib.hid (HB1.out.trans (hb2.mono HB1.out.size))
 clear hc hb2
 go_wp2_with fail
 refine (JD.out c w2 HB2.out HC.out).mono ?_
 rintro e w3 ⟨hq,hb3,hv3⟩
 have HB3:Hid (But (VB vb mo) w w3):=Lib.hid ((But.of_below HB2.out).trans hb3 (fun _ _ k=>k) (fun _ _ k=>k))
 have Nr:Hid (∃jq N',aZ w3 vb jq N' (Nk rv l)∧N'≤N+2000∧(jq=mo∨(mo=none∧ ∃b,jq=some b∧w.heap.size≤b))):=Lib.hid (by
  obtain ⟨jq,N',h1,h2,h3⟩:=hv3
  refine ⟨jq,N',h1,h2,?_⟩
  rcases h3 with h3 | ⟨h3,b',e',hlt⟩
  ·exact Or.inl h3
  ·exact Or.inr ⟨h3,b',e',by have:=HB2.out.size;omega⟩)
 clear hb3 hv3
 cases rv with
 | ok x e'=>
  obtain rfl:e= .returned (.tuple #[.int .i64 x,.nilIface]):=hq
  go_wp2_with fail
  go_ret2
  exact ⟨rfl,HB3.out,Nr.out⟩
 | bad a p=>
  obtain ⟨pv,rfl,her⟩:=hq
  have DC:=Lib.hid her
  clear her
  go_wp2_with fail
  go_ret2
  exact ⟨⟨pv,rfl,DC.out⟩,HB3.out,Nr.out⟩
 | no=>exact absurd rfl HNO.out
end Go.Proofs.YtacfglopionkfaaGreatDoor
namespace Go.Proofs.YtacfglopionkfaaGreatDoor
set_option maxHeartbeats 8000000
set_option maxRecDepth 100000
open Go.RowKit
def xM (d:Nat):Int:=if d<10 then 48+d else 87+d
def iH (b n:Nat):List Int:=if _h:b<2∨n<b then [xM n] else iH b (n / b)++[xM (n % b)]
termination_by n
decreasing_by exact Nat.div_lt_self (by omega) (by omega)
theorem oV (b n:Nat) (h:n<b):iH b n=[xM n]:=by rw [iH,dif_pos (Or.inr h)]
theorem qP (b n:Nat) (hb:2≤b) (h:b≤n):iH b n=iH b (n / b)++[xM (n % b)]:=by rw [iH,dif_neg (by omega)]
theorem qy (b:Nat) (hb:2≤b): ∀(k n:Nat),1≤k→n<b ^ k→(iH b n).length≤k
 | 0,_,h,_=>absurd h (by omega)
 | k+1,n,_,h=>by
  by_cases hn:n<b
  ·rw [oV _ _ hn];simp
  ·rw [qP _ _ hb (by omega),List.length_append]
   have hk:1≤k:=by
    rcases Nat.eq_zero_or_pos k with h0 | h0
    ·subst h0;simp at h;omega
    ·exact h0
   have:=qy b hb k (n / b) hk (by rw [Nat.div_lt_iff_lt_mul (by omega)];rw [Nat.pow_succ] at h;exact h)
   simp
   exact this
theorem Ce (s t:ByteArray):bT (s++t)=bT s++bT t:=by
 unfold bT
 rw [show (s++t).data=s.data++t.data from ByteArray.data_append]
 simp
theorem y8 (b q:Nat) (hb:2≤b):iH b q=(if q / b=0 then [] else iH b (q / b))++[xM (q % b)]:=by
 by_cases hq:q<b
 ·have h0:q / b=0:=Nat.div_eq_of_lt hq
  rw [if_pos h0,Nat.mod_eq_of_lt hq,oV _ _ hq]
  rfl
 ·have h0:q / b≠0:=by
   have:1≤q / b:=(Nat.le_div_iff_mul_le (by omega)).2 (by omega)
   omega
  rw [if_neg h0,qP b q hb (by omega)]
theorem uY (u:Nat):dL u=iH 10 u:=by
 induction u using Nat.strongRecOn with
 | _ u ih=>
  by_cases h:u<10
  ·rw [sQ h,oV _ _ h]
   have e:xM u=48+u:=by unfold xM;rw [if_pos h]
   rw [e]
  ·rw [xA h,qP 10 u (by omega) (by omega),ih (u / 10) (by omega)]
   have hm:u % 10<10:=Nat.mod_lt _ (by omega)
   have e:xM (u % 10)=48+(u % 10:Nat):=by unfold xM;rw [if_pos hm]
   rw [e]
theorem MF {s t:ByteArray} (h:bT s=bT t):s=t:=by
 have h1:=congrArg (List.map fun n:Int=>UInt8.ofNat n.toNat) h
 rw [qo,qo] at h1
 obtain ⟨⟨s⟩⟩:=s
 obtain ⟨⟨t⟩⟩:=t
 simpa using h1
def textU (n:Int):List Int:=if n<0 then 45::iH 10 n.natAbs else iH 10 n.toNat
theorem MB (n:Int):bT (gW n)=textU n:=by
 unfold gW Lib.itoa textU
 by_cases h:n<0
 ·rw [if_pos h,if_pos h, ←uY]
  unfold bT dL
  simp
 ·rw [if_neg h,if_neg h, ←uY]
  unfold bT dL
  simp
theorem YS (d:Nat) (h:d<16):bT ((⟨#[48,49,50,51,52,53,54,55,56,57,97,98,99,100,101,102]⟩:ByteArray).extract d (d+1))=[xM d]:=by
 rcases (by omega:d=0∨d=1∨d=2∨d=3∨d=4∨d=5∨d=6∨d=7∨d=8∨d=9∨d=10∨d=11∨d=12∨d=13∨d=14∨d=15) with rfl | rfl | rfl | rfl | rfl | rfl | rfl | rfl | rfl | rfl | rfl | rfl | rfl | rfl | rfl | rfl<;>rfl
set_option maxHeartbeats 4000000 in
theorem BK (n b:Nat) (w:World) (hb:2≤b) (hb2:b≤16) (hn:n<18446744073709551616):
  Calls Tryz.prog 68 #[.int .u64 n,.int .i64 b,.bool false] w fun e w'=> ∃t,e= .returned (.string t)∧bT t=iH b n∧Below w.heap.size w w':=by
 have hbI:(2:Int)≤b:=by omega
 have hbI2:(b:Int)≤16:=by omega
 have hwb:IntKind.u64.wrap (b:Int)=b:=by
  unfold IntKind.wrap
  simp [IntKind.signed,IntKind.bits]
  omega
 have hb0: ¬(b:Int)=0:=by omega
 have hbp:0<(b:Int):=by omega
 have Rn:=Int.emod_nonneg (n:Int) (show (b:Int)≠0 by omega)
 have Rl:=Int.emod_lt_of_pos (n:Int) hbp
 have Rk:(n:Int) % b<16:=by omega
 have hnI:(n:Int)≤18446744073709551615:=by omega
 have HLEN:=Lib.hid (qy b hb 64 n (by omega) (Nat.lt_of_lt_of_le hn (Nat.le_trans (by decide) (Nat.pow_le_pow_left hb 64))))
 have fD:Hid ((if n / b=0 then [] else iH b (n / b))++bT ((⟨#[48,49,50,51,52,53,54,55,56,57,97,98,99,100,101,102]⟩:ByteArray).extract (n % b) (n % b+1))=iH b n):=Lib.hid (by rw [YS _ (by have:=Nat.mod_lt n (show b>0 by omega);omega)];exact (y8 b n hb).symm)
 have hq0:0≤(n:Int) / b:=Int.ediv_nonneg (by omega) (by omega)
 have hq1:(n:Int) / b≤n:=Int.ediv_le_self _ (by omega)
 go_enter Tryz.func68,Tryz.ntmps68
 go_wp2_with fail
 go_quiet (fail)
 have lM:Hid (Below w.heap.size w (w.drewN nq)):=Lib.hid ⟨rfl,rfl,rfl,Nat.le_refl _,fun _ _=>rfl⟩
 generalize w.drewN nq=w1 at*
 generalize (⟨#[48,49,50,51,52,53,54,55,56,57,97,98,99,100,101,102]⟩:ByteArray).extract (n % b) (n % b+1)=s0 at*
 go_wp2_with fail
 go_loop [0,8] (fun x s=> ∃(q:Nat) (st:ByteArray),x= .int .u64 q∧s= .string st∧q≤n∧(if q=0 then [] else iH b q)++bT st=iH b n) (fun x _=>(intOf x).toNat)
 case atStart=>exact ⟨n / b,s0,by rw [Int.natCast_ediv],rfl,Nat.div_le_self _ _,fD.out⟩
 case round=>
  obtain ⟨q,st,rfl,rfl,hqn,hinv⟩:=hrel
  by_cases hq:q=0
  ·subst hq
   have HI:=Lib.hid hinv
   clear hinv
   go_wp2
   go_ret
   exact ⟨st,rfl,by simpa using HI.out,lM.out⟩
  ·have hstep:(if q / b=0 then [] else iH b (q / b))++bT ((⟨#[48,49,50,51,52,53,54,55,56,57,97,98,99,100,101,102]⟩:ByteArray).extract (q % b) (q % b+1)++st)=iH b n:=by
    rw [Ce,YS _ (by have:=Nat.mod_lt q (show b>0 by omega);omega), ←List.append_assoc, ←y8 b q hb]
    simpa [hq] using hinv
   have hlen:st.size≤64:=by
    have h1:=congrArg List.length hinv
    rw [List.length_append,bC] at h1
    have:=HLEN.out
    omega
   have HST:=Lib.hid hstep
   have HDV:Hid (q / b<q):=Nat.div_lt_self (by omega) (by omega)
   clear hinv hstep Rn Rl Rk hq0 hq1
   have hqp:0<(q:Int):=by omega
   have Rn:=Int.emod_nonneg (q:Int) (show (b:Int)≠0 by omega)
   have Rl:=Int.emod_lt_of_pos (q:Int) hbp
   have Rk:(q:Int) % b<16:=by omega
   have hqI:(q:Int)≤18446744073709551615:=by omega
   have hq0:0≤(q:Int) / b:=Int.ediv_nonneg (by omega) (by omega)
   have hq1:(q:Int) / b≤q:=Int.ediv_le_self _ (by omega)
   go_wp2
   go_round
   case rel=>exact ⟨q / b,_,by rw [Int.natCast_ediv],rfl,by have:=HDV.out;omega,HST.out⟩
   case measure=>have:=HDV.out;simp [intOf];omega
theorem MC (t:ByteArray):bT ((⟨#[45]⟩:ByteArray)++t)=45::bT t:=by rw [Ce];rfl
set_option maxHeartbeats 4000000 in
theorem Hr (n:Int) (w:World) (h0: -9223372036854775808≤n) (h1:n≤9223372036854775807):
  Calls Tryz.prog 36 #[.int .i64 n] w fun e w'=> ∃t,e= .returned (.string t)∧bT t=textU n∧Below w.heap.size w w':=by
 by_cases hn:n<0
 ·obtain ⟨q,hq,hq1⟩: ∃q:Nat,n= -(q:Int)∧q≤9223372036854775808:=⟨n.natAbs,by omega,by omega⟩
  have HB:=Lib.hid (BK q 10 w (by omega) (by omega) (by omega))
  have HL:=Lib.hid (qy 10 (by omega) 20 q (by omega) (Nat.lt_of_le_of_lt hq1 (by decide)))
  have hw1:IntKind.i64.wrap (n+1)=n+1:=by
   unfold IntKind.wrap
   simp [IntKind.signed,IntKind.bits]
   omega
  have hw2:IntKind.i64.wrap (-(n+1))= -(n+1):=by
   unfold IntKind.wrap
   simp [IntKind.signed,IntKind.bits]
   omega
  have hw3:IntKind.u64.wrap (-(n+1))= -(n+1):=by
   unfold IntKind.wrap
   simp [IntKind.signed,IntKind.bits]
   omega
  have hw4:IntKind.u64.wrap (-(n+1)+1)=q:=by
   unfold IntKind.wrap
   simp [IntKind.signed,IntKind.bits]
   omega
  have HT:Hid (textU n=45::iH 10 q):=Lib.hid (by unfold textU;rw [if_pos hn];congr 2;omega)
  have HQ:=Lib.hid hq
  clear hq
  go_enter Tryz.func36,Tryz.ntmps36
  go_wp2_with fail
  refine HB.out.mono ?_
  rintro e w1 ⟨t,rfl,ht,hb1⟩
  have hsz:t.size≤20:=by
   have:=HL.out
   rw [←bC,ht]
   exact this
  have HE:Hid (bT ((⟨#[45]⟩:ByteArray)++t)=textU n):=Lib.hid (by rw [MC,ht,HT.out])
  have HB1:=Lib.hid hb1
  clear ht hb1
  go_wp2
  go_ret
  exact ⟨_,rfl,HE.out,HB1.out⟩
 ·obtain ⟨q,rfl⟩: ∃q:Nat,n=q:=⟨n.toNat,by omega⟩
  have HB:=Lib.hid (BK q 10 w (by omega) (by omega) (by omega))
  have hw3:IntKind.u64.wrap (q:Int)=q:=by
   unfold IntKind.wrap
   simp [IntKind.signed,IntKind.bits]
   omega
  have HT:Hid (textU (q:Int)=iH 10 q):=Lib.hid (by unfold textU;rw [if_neg (by omega)];rfl)
  go_enter Tryz.func36,Tryz.ntmps36
  go_wp2_with fail
  refine HB.out.mono ?_
  rintro e w1 ⟨t,rfl,ht,hb1⟩
  go_wp2
  go_ret
  exact ⟨t,rfl,by rw [ht,HT.out],hb1⟩
theorem I7 (n:Int) (w:World) (h:I64 n):Calls Tryz.prog 36 #[.int .i64 n] w fun e w'=>e= .returned (.string (gW n))∧Below w.heap.size w w':=by
 refine (Hr n w h.1 h.2).mono ?_
 rintro e w' ⟨t,rfl,ht,hb⟩
 rw [MF (ht.trans (MB n).symm)]
 exact ⟨rfl,hb⟩
abbrev dY (l:Vl):ByteArray→Int × Nat:=fun n=>numOf (jB l n)
end Go.Proofs.YtacfglopionkfaaGreatDoor
namespace Go.Proofs.YtacfglopionkfaaGreatDoor
set_option maxHeartbeats 8000000
set_option maxRecDepth 100000
open Go.RowKit Go.WideMaps Go.Maps
theorem VS.shape {w:World} {v:Value} {l:Vl} (h:VS w v l): ∃a c,v= .slice a l.length c:=by
 rcases h with ⟨rfl,x,y,h⟩ | ⟨x,y,z,h,_⟩
 ·exact ⟨x,y,h⟩
 ·exact ⟨_,z,h⟩
theorem xU (va vb:Value) (a:Vl) (w:World) (ha:VS w va a) (hb:VS w vb a) (hl:a.length≤1000000):Calls Tryz.prog 14 #[va,vb] w fun e w'=>e= .returned (.bool true)∧Below w.heap.size w w':=by
 refine (G9 va vb a a w ha hb hl hl).mono ?_
 rintro e w' ⟨rfl,hb⟩
 exact ⟨by rw [decide_eq_true (rfl:a=a)],hb⟩
end Go.Proofs.YtacfglopionkfaaGreatDoor
