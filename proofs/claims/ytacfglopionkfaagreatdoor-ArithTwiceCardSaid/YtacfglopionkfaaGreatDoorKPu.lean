import Derived.Test.YtacfglopionkfaaGreatDoorKOs
namespace Go.Proofs.YtacfglopionkfaaGreatDoor
open Go.RowKit
structure Ins where
 k:Nat
 n:Int
 nm:ByteArray
 op:ByteArray
 p:Nat
 tg:Nat
def Ins.cells (i:Ins):List Value:=[.int .i64 i.k,.int .i64 i.n,.string i.nm,.string i.op,.int .i64 i.p,.int .i64 i.tg]
def lT (n:Int):Ins:=⟨0,n,ak,ak,0,0⟩
def dU (s:ByteArray) (p:Nat):Ins:=⟨1,0,s,ak,p,0⟩
def jC (s:ByteArray):Ins:=⟨2,0,s,ak,0,0⟩
def mV (op:ByteArray):Ins:=⟨3,0,ak,op,0,0⟩
def mQ (op:ByteArray) (p:Nat):Ins:=⟨4,0,ak,op,p,0⟩
def qA (tg:Nat):Ins:=⟨5,0,ak,ak,0,tg⟩
def eH (tg:Nat):Ins:=⟨6,0,ak,ak,0,tg⟩
def eX:ByteArray:=⟨#[116,114,117,116,104]⟩
def fV:ByteArray:=⟨#[38,38]⟩
def jR:ByteArray:=⟨#[124,124]⟩
def bF (s:ByteArray):ByteArray:=⟨(Lib.trimSuffix s.data.toList [61]).toArray⟩
def jH (A B:List Ins) (k:Nat):List Ins:=A++(qA (k+A.length+1+B.length+2)::(B++[mV eX,eH (k+A.length+1+B.length+3),lT 0]))
def lK (A B:List Ins) (k:Nat):List Ins:=A++(qA (k+A.length+3)::lT 1::eH (k+A.length+3+B.length+1)::(B++[mV eX]))
def mY (A B C:List Ins) (k:Nat):List Ins:=A++(qA (k+A.length+1+B.length+1)::(B++(eH (k+A.length+1+B.length+1+C.length)::C)))
def comp:Tr→Nat→List Ins
 | .num n _,_=>[lT n]
 | .name s p,_=>[dU s p]
 | .un op _ a,k=>comp a k++[mV op]
 | .bin op p a b,k=>
  if op=fV then jH (comp a k) (comp b (k+(comp a k).length+1)) k
  else if op=jR then lK (comp a k) (comp b (k+(comp a k).length+3)) k
  else comp a k++(comp b (k+(comp a k).length)++[mQ op p])
 | .cond _ _ a b c,k=>mY (comp a k) (comp b (k+(comp a k).length+1)) (comp c (k+(comp a k).length+1+(comp b (k+(comp a k).length+1)).length+1)) k
 | .eF op s p q a,k=>
  if bF op=ak then comp a k++[jC s]
  else dU s p::(comp a (k+1)++[mQ (bF op) q,jC s])
abbrev Asc:=List (ByteArray × Int)
def look:Asc→ByteArray→Option Int
 | [],_=>none
 | (k,v)::r,s=>if k=s then some v else look r s
inductive Rv
 | ok (v:Int) (e:Asc)
 | bad (c p:Nat)
 | no
def JR:ByteArray:=⟨#[43]⟩
def SX:ByteArray:=⟨#[42]⟩
def Jv:ByteArray:=⟨#[47]⟩
def Ju:ByteArray:=⟨#[37]⟩
theorem Zx (r:Int): ∃n:Nat,n<64∧bits .and .i64 r 63=(n:Int):=by
 refine ⟨(BitVec.ofInt 64 r &&& BitVec.ofInt 64 63).toNat,?_,?_⟩
 ·rw [BitVec.toNat_and]
  exact Nat.lt_of_le_of_lt Nat.and_le_right (by decide)
 ·have h:(BitVec.ofInt 64 r &&& BitVec.ofInt 64 63).toNat<64:=by
   rw [BitVec.toNat_and]
   exact Nat.lt_of_le_of_lt Nat.and_le_right (by decide)
  show IntKind.i64.wrap ((BitVec.ofInt 64 r &&& BitVec.ofInt 64 63).toNat:Int)=_
  rw [IntKind.wrap_i64]
  omega
def Jp (r:Int):Nat:=(bits .and .i64 r 63).toNat
theorem Dh (r:Int):bits .and .i64 r 63=(Jp r:Int)∧Jp r<64:=by
 obtain ⟨n,h1,h2⟩:=Zx r
 unfold Jp
 rw [h2]
 exact ⟨rfl,by simpa using h1⟩
def kK (op:ByteArray) (l r:Int):Option Int:=
 if op=JR then some (wrap64 (l+r)) else
 if op=SX then some (wrap64 (l*r)) else
 if op=⟨#[117,43]⟩ then some (wrap64 r) else
 if op=⟨#[117,45]⟩ then some (wrap64 (-r)) else
 if op=⟨#[45]⟩ then some (wrap64 (l - r)) else
 if op=⟨#[126]⟩ then some (bits .xor .i64 (-1) r) else
 if op=⟨#[94]⟩ then some (bits .xor .i64 l r) else
 if op=⟨#[38]⟩ then some (bits .and .i64 l r) else
 if op=⟨#[124]⟩ then some (bits .or .i64 l r) else
 if op=⟨#[47]⟩ then (if r=0 then none else some (wrap64 (l.tdiv r))) else
 if op=⟨#[37]⟩ then (if r=0 then none else some (l.tmod r)) else
 if op=⟨#[60,60]⟩ then some (wrap64 (l*2 ^ Jp r)) else
 if op=⟨#[62,62]⟩ then some (l / 2 ^ Jp r) else
 if op=⟨#[116,114,117,116,104]⟩ then some (if r≠0 then 1 else 0) else
 if op=⟨#[33,61]⟩ then some (if l≠r then 1 else 0) else
 if op=⟨#[33]⟩ then some (if r=0 then 1 else 0) else
 if op=⟨#[61,61]⟩ then some (if l=r then 1 else 0) else
 if op=⟨#[62]⟩ then some (if r<l then 1 else 0) else
 if op=⟨#[60]⟩ then some (if l<r then 1 else 0) else
 if op=⟨#[62,61]⟩ then some (if r≤l then 1 else 0) else
 if op=⟨#[60,61]⟩ then some (if l≤r then 1 else 0) else
 none
def ig (op:ByteArray) (v:Int) (e:Asc):Rv:=match kK op 0 v with | some x=> .ok x e | none=> .no
def gq (op:ByteArray) (p:Nat) (l r:Int) (e:Asc):Rv:=if r=0∧(op=Jv∨op=Ju) then .bad 12 p else match kK op l r with | some x=> .ok x e | none=> .no
def jZ (NV:ByteArray→Int × Nat) (s:ByteArray) (p:Nat) (e:Asc):Rv:=match look e s with | some v=> .ok v e | none=>if (NV s).2=0 then .ok (NV s).1 e else .bad (NV s).2 p
def Rv.then (r:Rv) (f:Int→Asc→Rv):Rv:=match r with | .ok v e=>f v e | .bad c p=> .bad c p | .no=> .no
def ev (NV:ByteArray→Int × Nat):Tr→Asc→Rv
 | .num n _,e=> .ok n e
 | .name s p,e=>jZ NV s p e
 | .un op _ a,e=>(ev NV a e).then fun v e1=>ig op v e1
 | .bin op p a b,e=>(ev NV a e).then fun v e1=>
  if op=fV then (if v=0 then .ok 0 e1 else (ev NV b e1).then fun u e2=>ig eX u e2)
  else if op=jR then (if v=0 then (ev NV b e1).then fun u e2=>ig eX u e2 else .ok 1 e1)
  else (ev NV b e1).then fun u e2=>gq op p v u e2
 | .cond _ _ a b c,e=>(ev NV a e).then fun v e1=>if v=0 then ev NV c e1 else ev NV b e1
 | .eF op s p q a,e=>
  if bF op=ak then (ev NV a e).then fun v e1=> .ok v ((s,v)::e1)
  else (jZ NV s p e).then fun v e1=>(ev NV a e1).then fun u e2=>(gq (bF op) q v u e2).then fun x e3=> .ok x ((s,x)::e3)
def need:Tr→Nat
 | .num _ _=>1
 | .name _ _=>1
 | .un _ _ a=>1+need a
 | .bin _ _ a b=>1+need a+need b
 | .cond _ _ a b c=>1+need a+need b+need c
 | .eF _ _ _ _ a=>1+need a
theorem sF: ∀t:Tr,1≤need t:=by
 intro t
 cases t<;>simp [need]<;>omega
structure Ms where
 a:Nat
 st:List Int
 se:Asc
inductive So
 | go (m:Ms)
 | bad (c p:Nat)
def kN (n:Int) (m:Ms):Option So:=if m.st.length<1024 then some (.go ⟨m.a,n::m.st,m.se⟩) else none
def Gn (r:Rv) (m:Ms) (st:List Int):Option So:=match r with | .ok v _=>some (.go ⟨m.a,v::st,m.se⟩) | .bad c p=>some (.bad c p) | .no=>none
def Bf (NV:ByteArray→Int × Nat) (i:Ins) (m:Ms):Option So:=
 match i.k with
 | 0=>kN i.n m
 | 1=>match jZ NV i.nm i.p m.se with | .ok v _=>kN v m | .bad c p=>some (.bad c p) | .no=>none
 | 2=>match m.st with | v::_=>some (.go ⟨m.a,m.st,(i.nm,v)::m.se⟩) | []=>none
 | 3=>match m.st with | v::r=>Gn (ig i.op v m.se) m r | []=>none
 | 4=>match m.st with | u::v::r=>Gn (gq i.op i.p v u m.se) m r | _=>none
 | 5=>if m.a≤i.tg then (match m.st with | v::r=>some (.go ⟨if v=0 then i.tg else m.a,r,m.se⟩) | []=>none) else none
 | 6=>if m.a≤i.tg then some (.go ⟨i.tg,m.st,m.se⟩) else none
 | _=>none
def runs (NV:ByteArray→Int × Nat) (code:List Ins):Nat→Ms→Option So
 | 0,m=>if m.a=code.length then some (.go m) else none
 | r+1,m=>match code[m.a]? with
  | none=>none
  | some i=>match Bf NV i ⟨m.a+1,m.st,m.se⟩ with
   | some (.go m1)=>runs NV code r m1
   | some (.bad c p)=>some (.bad c p)
   | none=>none
theorem dB {NV:ByteArray→Int × Nat} {code:List Ins} {m m1:Ms} {i:Ins} {f:So} (hi:code[m.a]? =some i) (hs:Bf NV i ⟨m.a+1,m.st,m.se⟩=some (.go m1)) (h: ∃r,runs NV code r m1=some f): ∃r,runs NV code r m=some f:=by
 obtain ⟨r,h⟩:=h
 refine ⟨r+1,?_⟩
 simp only [runs,hi,hs,h]
theorem su {NV:ByteArray→Int × Nat} {code:List Ins} {m:Ms} {i:Ins} {c p:Nat} (hi:code[m.a]? =some i) (hs:Bf NV i ⟨m.a+1,m.st,m.se⟩=some (.bad c p)): ∃r,runs NV code r m=some (.bad c p):=by
 refine ⟨1,?_⟩
 simp only [runs,hi,hs]
theorem lF {NV:ByteArray→Int × Nat} {code:List Ins} {r a b:Nat} {st:List Int} {se:Asc} (h:a=b):runs NV code r ⟨a,st,se⟩=runs NV code r ⟨b,st,se⟩:=by rw [h]
def Has (code:List Ins) (k:Nat) (l:List Ins):Prop:= ∀j u,l[j]? =some u→code[k+j]? =some u
theorem Has.head {code:List Ins} {k:Nat} {i:Ins} {l:List Ins} (h:Has code k (i::l)):code[k]? =some i∧Has code (k+1) l:=
 ⟨h 0 i rfl,fun j u hu=>by have:=h (j+1) u (by simpa using hu);rw [←this];congr 1;omega⟩
theorem Has.app {code:List Ins} {k:Nat} {a b:List Ins} (h:Has code k (a++b)):Has code k a∧Has code (k+a.length) b:=by
 refine ⟨fun j u hu=>h j u ?_,fun j u hu=>?_⟩
 ·rw [List.getElem?_append_left (List.getElem?_eq_some_iff.1 hu).1];exact hu
 ·have:=h (a.length+j) u (by rw [List.getElem?_append_right (by omega),Nat.add_sub_cancel_left];exact hu)
  rw [←this];congr 1;omega
theorem Has.self (l:List Ins):Has l 0 l:=fun j u hu=>by rw [Nat.zero_add];exact hu
structure Seg (NV:ByteArray→Int × Nat) (code:List Ins) (t:Tr) (k n:Nat):Prop where
 ok: ∀(st:List Int) (e:Asc) (v:Int) (e':Asc) (f:So),st.length+need t≤1024→ev NV t e= .ok v e'→(∃r,runs NV code r ⟨k+n,v::st,e'⟩=some f)→ ∃r,runs NV code r ⟨k,st,e⟩=some f
 bad: ∀(st:List Int) (e:Asc) (c p:Nat),st.length+need t≤1024→ev NV t e= .bad c p→ ∃r,runs NV code r ⟨k,st,e⟩=some (.bad c p)
theorem Rv.then_ok {r:Rv} {f:Int→Asc→Rv} {v:Int} {e:Asc} (h:r.then f= .ok v e): ∃u e1,r= .ok u e1∧f u e1= .ok v e:=by
 cases r with
 | ok u e1=>exact ⟨u,e1,rfl,h⟩
 | bad c p=>exact absurd h (by simp [Rv.then])
 | no=>exact absurd h (by simp [Rv.then])
theorem Rv.bP {r:Rv} {f:Int→Asc→Rv} {c p:Nat} (h:r.then f= .bad c p):r= .bad c p∨ ∃u e1,r= .ok u e1∧f u e1= .bad c p:=by
 cases r with
 | ok u e1=>exact Or.inr ⟨u,e1,rfl,h⟩
 | bad c' p'=>exact Or.inl h
 | no=>exact absurd h (by simp [Rv.then])
theorem OI {NV:ByteArray→Int × Nat} {op:ByteArray} {a:Nat} {v:Int} {st:List Int} {e:Asc}:Bf NV (mV op) ⟨a,v::st,e⟩=Gn (ig op v e) ⟨a,v::st,e⟩ st:=rfl
theorem FC {NV:ByteArray→Int × Nat} {op:ByteArray} {p a:Nat} {u v:Int} {st:List Int} {e:Asc}:Bf NV (mQ op p) ⟨a,u::v::st,e⟩=Gn (gq op p v u e) ⟨a,u::v::st,e⟩ st:=rfl
theorem tK {NV:ByteArray→Int × Nat} {tg a:Nat} {v:Int} {st:List Int} {e:Asc} (h:a≤tg):Bf NV (qA tg) ⟨a,v::st,e⟩=some (.go ⟨if v=0 then tg else a,st,e⟩):=if_pos h
theorem wB {NV:ByteArray→Int × Nat} {tg a:Nat} {st:List Int} {e:Asc} (h:a≤tg):Bf NV (eH tg) ⟨a,st,e⟩=some (.go ⟨tg,st,e⟩):=if_pos h
theorem yN {NV:ByteArray→Int × Nat} {s:ByteArray} {a:Nat} {v:Int} {st:List Int} {e:Asc}:Bf NV (jC s) ⟨a,v::st,e⟩=some (.go ⟨a,v::st,(s,v)::e⟩):=rfl
theorem vZ {NV:ByteArray→Int × Nat} {n:Int} {a:Nat} {st:List Int} {e:Asc} (h:st.length<1024):Bf NV (lT n) ⟨a,st,e⟩=some (.go ⟨a,n::st,e⟩):=by
 show kN _ _=_
 unfold kN
 rw [if_pos h]
 rfl
theorem jG {op:ByteArray} {v x:Int} {e e':Asc} (h:ig op v e= .ok x e'):e'=e:=by
 unfold ig at h
 split at h<;>simp at h
 exact h.2.symm
theorem lV {op:ByteArray} {v:Int} {e:Asc} {c p:Nat} (h:ig op v e= .bad c p):False:=by
 unfold ig at h
 split at h<;>simp at h
theorem l9 {op:ByteArray} {q:Nat} {l r x:Int} {e e':Asc} (h:gq op q l r e= .ok x e'):e'=e:=by
 unfold gq at h
 split at h
 ·simp at h
 ·split at h<;>simp at h
  exact h.2.symm
theorem mX {NV:ByteArray→Int × Nat} {s:ByteArray} {p:Nat} {x:Int} {e e':Asc} (h:jZ NV s p e= .ok x e'):e'=e:=by
 unfold jZ at h
 split at h
 ·simp at h;exact h.2.symm
 ·split at h<;>simp at h
  exact h.2.symm
theorem wz {NV:ByteArray→Int × Nat} {s:ByteArray} {p a:Nat} {x:Int} {st:List Int} {e e':Asc} (h:jZ NV s p e= .ok x e') (hl:st.length<1024):Bf NV (dU s p) ⟨a,st,e⟩=some (.go ⟨a,x::st,e⟩):=by
 show (match jZ NV s p e with | .ok v _=>kN v ⟨a,st,e⟩ | .bad c p=>some (.bad c p) | .no=>none)=_
 rw [h]
 show kN _ _=_
 unfold kN
 rw [if_pos hl]
theorem yO {NV:ByteArray→Int × Nat} {s:ByteArray} {p a:Nat} {c q:Nat} {st:List Int} {e:Asc} (h:jZ NV s p e= .bad c q):Bf NV (dU s p) ⟨a,st,e⟩=some (.bad c q):=by
 show (match jZ NV s p e with | .ok v _=>kN v ⟨a,st,e⟩ | .bad c p=>some (.bad c p) | .no=>none)=_
 rw [h]
theorem wu {NV:ByteArray→Int × Nat} {op:ByteArray} {a:Nat} {v x:Int} {st:List Int} {e e':Asc} (h:ig op v e= .ok x e'):Bf NV (mV op) ⟨a,v::st,e⟩=some (.go ⟨a,x::st,e⟩):=by
 rw [OI,h];rfl
theorem BD {NV:ByteArray→Int × Nat} {op:ByteArray} {p a:Nat} {u v x:Int} {st:List Int} {e e':Asc} (h:gq op p v u e= .ok x e'):Bf NV (mQ op p) ⟨a,u::v::st,e⟩=some (.go ⟨a,x::st,e⟩):=by
 rw [FC,h];rfl
theorem BF {NV:ByteArray→Int × Nat} {op:ByteArray} {p a:Nat} {u v:Int} {c q:Nat} {st:List Int} {e:Asc} (h:gq op p v u e= .bad c q):Bf NV (mQ op p) ⟨a,u::v::st,e⟩=some (.bad c q):=by
 rw [FC,h];rfl
theorem aW: ∀(t:Tr) (k j:Nat),(comp t k).length=(comp t j).length
 | .num _ _,_,_=>rfl
 | .name _ _,_,_=>rfl
 | .un op _ a,k,j=>by simp only [comp,List.length_append];rw [aW a k j]
 | .bin op p a b,k,j=>by
  simp only [comp]
  rw [aW a k j]
  split
  ·simp only [jH,List.length_append,List.length_cons,List.length_nil];rw [aW a k j,aW b _ (j+(comp a j).length+1)]
  ·split
   ·simp only [lK,List.length_append,List.length_cons,List.length_nil];rw [aW a k j,aW b _ (j+(comp a j).length+3)]
   ·simp only [List.length_append,List.length_cons,List.length_nil];rw [aW a k j,aW b _ (j+(comp a j).length)]
 | .cond _ _ a b c,k,j=>by
  simp only [comp,mY,List.length_append,List.length_cons]
  rw [aW a k j,aW b _ (j+(comp a j).length+1),aW c _ (j+(comp a j).length+1+(comp b (j+(comp a j).length+1)).length+1)]
 | .eF op s p q a,k,j=>by
  simp only [comp]
  split
  ·simp only [List.length_append];rw [aW a k j]
  ·simp only [List.length_append,List.length_cons];rw [aW a (k+1) (j+1)]
theorem gX (NV:ByteArray→Int × Nat) (code:List Ins): ∀(t:Tr) (k:Nat),Has code k (comp t k)→Seg NV code t k (comp t k).length
 | .num n p,k,h=>by
  have h0:=h.head.1
  refine ⟨fun st e v e' f hl hv hr=>?_,fun st e c p hl hv=>?_⟩
  ·simp only [ev,Rv.ok.injEq] at hv
   obtain ⟨rfl,rfl⟩:=hv
   exact dB h0 (vZ (by simp only [need] at hl;show st.length<1024;omega)) hr
  ·simp [ev] at hv
 | .name s q,k,h=>by
  have h0:=h.head.1
  refine ⟨fun st e v e' f hl hv hr=>?_,fun st e c p hl hv=>?_⟩
  ·simp only [ev] at hv
   have he:=mX hv
   subst he
   exact dB h0 (wz hv (by simp only [need] at hl;show st.length<1024;omega)) hr
  ·simp only [ev] at hv
   exact su h0 (yO hv)
 | .un op q a,k,h=>by
  obtain ⟨ha,hb⟩:=Has.app (show Has code k (comp a k++[mV op]) from h)
  have hn:(comp (.un op q a) k).length=(comp a k).length+1:=by simp [comp]
  have ia:=gX NV code a k ha
  refine ⟨fun st e v e' f hl hv hr=>?_,fun st e c p hl hv=>?_⟩
  ·simp only [need] at hl
   obtain ⟨u,e1,h1,h2⟩:=Rv.then_ok (show (ev NV a e).then (fun v e1=>ig op v e1)=_ from hv)
   have he:=jG h2
   subst he
   refine ia.ok st e u _ f (by omega) h1 (dB (hb.head.1) (wu h2) ?_)
   rw [hn] at hr
   exact hr
  ·simp only [need] at hl
   rcases Rv.bP (show (ev NV a e).then (fun v e1=>ig op v e1)=_ from hv) with h1 | ⟨u,e1,h1,h2⟩
   ·exact ia.bad st e c p (by omega) h1
   ·exact (lV h2).elim
 | .bin op q a b,k,h=>by
  by_cases h1:op=fV
  ·have hc:comp (.bin op q a b) k=jH (comp a k) (comp b (k+(comp a k).length+1)) k:=by simp only [comp];rw [if_pos h1]
   have he: ∀e,ev NV (.bin op q a b) e=(ev NV a e).then fun v e1=>if v=0 then .ok 0 e1 else (ev NV b e1).then fun u e2=>ig eX u e2:=fun e=>by simp only [ev];simp only [if_pos h1]
   rw [hc] at h⊢
   obtain ⟨ha,hb⟩:=h.app
   obtain ⟨g0,hb⟩:=hb.head
   obtain ⟨hb,hd⟩:=hb.app
   obtain ⟨g1,hd⟩:=hd.head
   obtain ⟨g2,hd⟩:=hd.head
   obtain ⟨g3,_⟩:=hd.head
   have ia:=gX NV code a k ha
   have ib:=gX NV code b _ hb
   have hn:(jH (comp a k) (comp b (k+(comp a k).length+1)) k).length=(comp a k).length+1+(comp b (k+(comp a k).length+1)).length+3:=by simp [jH];omega
   rw [hn]
   generalize (comp a k).length=na at*
   generalize (comp b (k+na+1)).length=nb at*
   refine ⟨fun st e v e' f hl hv hr=>?_,fun st e c p hl hv=>?_⟩
   ·simp only [need] at hl
    rw [he] at hv
    obtain ⟨u,e1,i1,i2⟩:=Rv.then_ok hv
    refine ia.ok st e u e1 f (by omega) i1 (dB g0 (tK (by first | omega | (dsimp only;omega))) ?_)
    by_cases hu:u=0
    ·rw [if_pos hu] at i2⊢
     simp only [Rv.ok.injEq] at i2
     obtain ⟨rfl,rfl⟩:=i2
     refine dB (i:=lT 0) (show code[k+na+1+nb+2]? =_ by rw [←g3]) (vZ (show st.length<1024 by omega)) ?_
     obtain ⟨r,hr⟩:=hr
     exact ⟨r,by rw [←hr];exact lF (by first | omega | (dsimp only;omega))⟩
    ·rw [if_neg hu] at i2⊢
     obtain ⟨x,e2,j1,j2⟩:=Rv.then_ok i2
     have hq:=jG j2
     subst hq
     refine ib.ok st e1 x _ f (by omega) j1 (dB g1 (wu j2) (dB g2 (wB (by first | omega | (dsimp only;omega))) ?_))
     obtain ⟨r,hr⟩:=hr
     exact ⟨r,by rw [←hr];exact lF (by first | omega | (dsimp only;omega))⟩
   ·simp only [need] at hl
    rw [he] at hv
    rcases Rv.bP hv with i1 | ⟨u,e1,i1,i2⟩
    ·exact ia.bad st e c p (by omega) i1
    ·refine ia.ok st e u e1 _ (by omega) i1 (dB g0 (tK (by first | omega | (dsimp only;omega))) ?_)
     by_cases hu:u=0
     ·rw [if_pos hu] at i2
      simp at i2
     ·rw [if_neg hu] at i2⊢
      rcases Rv.bP i2 with j1 | ⟨x,e2,j1,j2⟩
      ·exact ib.bad st e1 c p (by omega) j1
      ·exact (lV j2).elim
  by_cases h2:op=jR
  ·have hc:comp (.bin op q a b) k=lK (comp a k) (comp b (k+(comp a k).length+3)) k:=by simp only [comp];rw [if_neg h1,if_pos h2]
   have he: ∀e,ev NV (.bin op q a b) e=(ev NV a e).then fun v e1=>if v=0 then (ev NV b e1).then fun u e2=>ig eX u e2 else .ok 1 e1:=fun e=>by simp only [ev];simp only [if_neg h1,if_pos h2]
   rw [hc] at h⊢
   obtain ⟨ha,hb⟩:=h.app
   obtain ⟨g0,hb⟩:=hb.head
   obtain ⟨g1,hb⟩:=hb.head
   obtain ⟨g2,hb⟩:=hb.head
   obtain ⟨hb,hd⟩:=hb.app
   obtain ⟨g3,_⟩:=hd.head
   have ia:=gX NV code a k ha
   have ib:=gX NV code b _ hb
   have hn:(lK (comp a k) (comp b (k+(comp a k).length+3)) k).length=(comp a k).length+3+(comp b (k+(comp a k).length+3)).length+1:=by simp [lK];omega
   rw [hn]
   generalize (comp a k).length=na at*
   generalize (comp b (k+na+3)).length=nb at*
   refine ⟨fun st e v e' f hl hv hr=>?_,fun st e c p hl hv=>?_⟩
   ·simp only [need] at hl
    rw [he] at hv
    obtain ⟨u,e1,i1,i2⟩:=Rv.then_ok hv
    refine ia.ok st e u e1 f (by omega) i1 (dB g0 (tK (by first | omega | (dsimp only;omega))) ?_)
    by_cases hu:u=0
    ·rw [if_pos hu] at i2⊢
     obtain ⟨x,e2,j1,j2⟩:=Rv.then_ok i2
     have hq:=jG j2
     subst hq
     refine ib.ok st e1 x _ f (by omega) j1 (dB g3 (wu j2) ?_)
     obtain ⟨r,hr⟩:=hr
     exact ⟨r,by rw [←hr];exact lF (by first | omega | (dsimp only;omega))⟩
    ·rw [if_neg hu] at i2⊢
     simp only [Rv.ok.injEq] at i2
     obtain ⟨rfl,rfl⟩:=i2
     refine dB g1 (vZ (show st.length<1024 by omega)) (dB g2 (wB (by first | omega | (dsimp only;omega))) ?_)
     obtain ⟨r,hr⟩:=hr
     exact ⟨r,by rw [←hr];exact lF (by first | omega | (dsimp only;omega))⟩
   ·simp only [need] at hl
    rw [he] at hv
    rcases Rv.bP hv with i1 | ⟨u,e1,i1,i2⟩
    ·exact ia.bad st e c p (by omega) i1
    ·refine ia.ok st e u e1 _ (by omega) i1 (dB g0 (tK (by first | omega | (dsimp only;omega))) ?_)
     by_cases hu:u=0
     ·rw [if_pos hu] at i2⊢
      rcases Rv.bP i2 with j1 | ⟨x,e2,j1,j2⟩
      ·exact ib.bad st e1 c p (by omega) j1
      ·exact (lV j2).elim
     ·rw [if_neg hu] at i2
      simp at i2
  ·have hc:comp (.bin op q a b) k=comp a k++(comp b (k+(comp a k).length)++[mQ op q]):=by simp only [comp];rw [if_neg h1,if_neg h2]
   have he: ∀e,ev NV (.bin op q a b) e=(ev NV a e).then fun v e1=>(ev NV b e1).then fun u e2=>gq op q v u e2:=fun e=>by simp only [ev];simp only [if_neg h1,if_neg h2]
   rw [hc] at h⊢
   obtain ⟨ha,hb⟩:=h.app
   obtain ⟨hb,hd⟩:=hb.app
   obtain ⟨g1,_⟩:=hd.head
   have ia:=gX NV code a k ha
   have ib:=gX NV code b _ hb
   have hn:(comp a k++(comp b (k+(comp a k).length)++[mQ op q])).length=(comp a k).length+(comp b (k+(comp a k).length)).length+1:=by simp;omega
   rw [hn]
   generalize (comp a k).length=na at*
   generalize (comp b (k+na)).length=nb at*
   refine ⟨fun st e v e' f hl hv hr=>?_,fun st e c p hl hv=>?_⟩
   ·simp only [need] at hl
    have hpa:=sF a
    rw [he] at hv
    obtain ⟨u,e1,i1,i2⟩:=Rv.then_ok hv
    obtain ⟨x,e2,j1,j2⟩:=Rv.then_ok i2
    have hq:=l9 j2
    subst hq
    refine ia.ok st e u e1 f (by omega) i1 (ib.ok (u::st) e1 x _ f (by simp only [List.length_cons];omega) j1 (dB g1 (BD j2) ?_))
    obtain ⟨r,hr⟩:=hr
    exact ⟨r,by rw [←hr];exact lF (by first | omega | (dsimp only;omega))⟩
   ·simp only [need] at hl
    have hpa:=sF a
    rw [he] at hv
    rcases Rv.bP hv with i1 | ⟨u,e1,i1,i2⟩
    ·exact ia.bad st e c p (by omega) i1
    ·refine ia.ok st e u e1 _ (by omega) i1 ?_
     rcases Rv.bP i2 with j1 | ⟨x,e2,j1,j2⟩
     ·exact ib.bad (u::st) e1 c p (by simp only [List.length_cons];omega) j1
     ·exact ib.ok (u::st) e1 x e2 _ (by simp only [List.length_cons];omega) j1 (su g1 (BF j2))
 | .cond op q a b c0,k,h=>by
  have hc:comp (.cond op q a b c0) k=mY (comp a k) (comp b (k+(comp a k).length+1)) (comp c0 (k+(comp a k).length+1+(comp b (k+(comp a k).length+1)).length+1)) k:=rfl
  have he: ∀e,ev NV (.cond op q a b c0) e=(ev NV a e).then fun v e1=>if v=0 then ev NV c0 e1 else ev NV b e1:=fun e=>rfl
  rw [hc] at h⊢
  obtain ⟨ha,hb⟩:=h.app
  obtain ⟨g0,hb⟩:=hb.head
  obtain ⟨hb,hd⟩:=hb.app
  obtain ⟨g1,hd⟩:=hd.head
  have ia:=gX NV code a k ha
  have ib:=gX NV code b _ hb
  have ic:=gX NV code c0 _ hd
  have hn:(mY (comp a k) (comp b (k+(comp a k).length+1)) (comp c0 (k+(comp a k).length+1+(comp b (k+(comp a k).length+1)).length+1)) k).length=(comp a k).length+1+(comp b (k+(comp a k).length+1)).length+1+(comp c0 (k+(comp a k).length+1+(comp b (k+(comp a k).length+1)).length+1)).length:=by simp [mY];omega
  rw [hn]
  generalize (comp a k).length=na at*
  generalize (comp b (k+na+1)).length=nb at*
  generalize (comp c0 (k+na+1+nb+1)).length=nc at*
  refine ⟨fun st e v e' f hl hv hr=>?_,fun st e c p hl hv=>?_⟩
  ·simp only [need] at hl
   rw [he] at hv
   obtain ⟨u,e1,i1,i2⟩:=Rv.then_ok hv
   refine ia.ok st e u e1 f (by omega) i1 (dB g0 (tK (by first | omega | (dsimp only;omega))) ?_)
   by_cases hu:u=0
   ·rw [if_pos hu] at i2⊢
    refine ic.ok st e1 v e' f (by omega) i2 ?_
    obtain ⟨r,hr⟩:=hr
    exact ⟨r,by rw [←hr];exact lF (by first | omega | (dsimp only;omega))⟩
   ·rw [if_neg hu] at i2⊢
    refine ib.ok st e1 v e' f (by omega) i2 (dB g1 (wB (by first | omega | (dsimp only;omega))) ?_)
    obtain ⟨r,hr⟩:=hr
    exact ⟨r,by rw [←hr];exact lF (by first | omega | (dsimp only;omega))⟩
  ·simp only [need] at hl
   rw [he] at hv
   rcases Rv.bP hv with i1 | ⟨u,e1,i1,i2⟩
   ·exact ia.bad st e c p (by omega) i1
   ·refine ia.ok st e u e1 _ (by omega) i1 (dB g0 (tK (by first | omega | (dsimp only;omega))) ?_)
    by_cases hu:u=0
    ·rw [if_pos hu] at i2⊢
     exact ic.bad st e1 c p (by omega) i2
    ·rw [if_neg hu] at i2⊢
     exact ib.bad st e1 c p (by omega) i2
 | .eF op s q1 q2 a,k,h=>by
  by_cases h1:bF op=ak
  ·have hc:comp (.eF op s q1 q2 a) k=comp a k++[jC s]:=by simp only [comp];rw [if_pos h1]
   have he: ∀e,ev NV (.eF op s q1 q2 a) e=(ev NV a e).then fun v e1=> .ok v ((s,v)::e1):=fun e=>by simp only [ev];rw [if_pos h1]
   rw [hc] at h⊢
   obtain ⟨ha,hb⟩:=h.app
   obtain ⟨g0,_⟩:=hb.head
   have ia:=gX NV code a k ha
   have hn:(comp a k++[jC s]).length=(comp a k).length+1:=by simp
   rw [hn]
   refine ⟨fun st e v e' f hl hv hr=>?_,fun st e c p hl hv=>?_⟩
   ·simp only [need] at hl
    rw [he] at hv
    obtain ⟨u,e1,i1,i2⟩:=Rv.then_ok hv
    simp only [Rv.ok.injEq] at i2
    obtain ⟨rfl,rfl⟩:=i2
    exact ia.ok st e u e1 f (by omega) i1 (dB g0 yN hr)
   ·simp only [need] at hl
    rw [he] at hv
    rcases Rv.bP hv with i1 | ⟨u,e1,i1,i2⟩
    ·exact ia.bad st e c p (by omega) i1
    ·simp at i2
  ·have hc:comp (.eF op s q1 q2 a) k=dU s q1::(comp a (k+1)++[mQ (bF op) q2,jC s]):=by simp only [comp];rw [if_neg h1]
   have he: ∀e,ev NV (.eF op s q1 q2 a) e=(jZ NV s q1 e).then fun v e1=>(ev NV a e1).then fun u e2=>(gq (bF op) q2 v u e2).then fun x e3=> .ok x ((s,x)::e3):=fun e=>by simp only [ev];rw [if_neg h1]
   rw [hc] at h⊢
   obtain ⟨g0,hb⟩:=h.head
   obtain ⟨ha,hb⟩:=hb.app
   obtain ⟨g1,hb⟩:=hb.head
   obtain ⟨g2,_⟩:=hb.head
   have ia:=gX NV code a _ ha
   have hn:(dU s q1::(comp a (k+1)++[mQ (bF op) q2,jC s])).length=1+(comp a (k+1)).length+2:=by simp;omega
   rw [hn]
   generalize (comp a (k+1)).length=na at*
   refine ⟨fun st e v e' f hl hv hr=>?_,fun st e c p hl hv=>?_⟩
   ·simp only [need] at hl
    have hpa:=sF a
    rw [he] at hv
    obtain ⟨u,e1,i1,i2⟩:=Rv.then_ok hv
    have hq:=mX i1
    subst hq
    obtain ⟨x,e2,j1,j2⟩:=Rv.then_ok i2
    obtain ⟨y,e3,k1,k2⟩:=Rv.then_ok j2
    have hq:=l9 k1
    subst hq
    simp only [Rv.ok.injEq] at k2
    obtain ⟨rfl,rfl⟩:=k2
    refine dB g0 (wz i1 (show st.length<1024 by omega)) (ia.ok (u::st) e1 x _ f (by simp only [List.length_cons];omega) j1 (dB g1 (BD k1) (dB g2 yN ?_)))
    obtain ⟨r,hr⟩:=hr
    exact ⟨r,by rw [←hr];exact lF (by first | omega | (dsimp only;omega))⟩
   ·simp only [need] at hl
    have hpa:=sF a
    rw [he] at hv
    rcases Rv.bP hv with i1 | ⟨u,e1,i1,i2⟩
    ·exact su g0 (yO i1)
    ·have hq:=mX i1
     subst hq
     refine dB g0 (wz i1 (show st.length<1024 by omega)) ?_
     rcases Rv.bP i2 with j1 | ⟨x,e2,j1,j2⟩
     ·exact ia.bad (u::st) e1 c p (by simp only [List.length_cons];omega) j1
     ·refine ia.ok (u::st) e1 x e2 _ (by simp only [List.length_cons];omega) j1 ?_
      rcases Rv.bP j2 with k1 | ⟨y,e3,k1,k2⟩
      ·exact su g1 (BF k1)
      ·simp at k2
theorem Dv {NV:ByteArray→Int × Nat} {t:Tr} {v:Int} {e':Asc} (hn:need t≤1024) (h:ev NV t []= .ok v e'): ∃r,runs NV (comp t 0) r ⟨0,[],[]⟩=some (.go ⟨(comp t 0).length,[v],e'⟩):=by
 refine (gX NV (comp t 0) t 0 (Has.self _)).ok [] [] v e' _ (by simpa using hn) h ⟨0,?_⟩
 simp [runs]
theorem zQ {NV:ByteArray→Int × Nat} {t:Tr} {c p:Nat} (hn:need t≤1024) (h:ev NV t []= .bad c p): ∃r,runs NV (comp t 0) r ⟨0,[],[]⟩=some (.bad c p):=
 (gX NV (comp t 0) t 0 (Has.self _)).bad [] [] c p (by simpa using hn) h
def lN:List ByteArray:=bG.flatten
theorem Fz (s:ByteArray): ∀(L:List (List ByteArray)) (k:Nat),1≤rowFrom s L k→s∈L.flatten
 | [],k,h=>by simp [rowFrom] at h
 | r::rs,k,h=>by
  simp only [rowFrom] at h
  by_cases c:r.any (fun x=>decide (x=s))=true
  ·obtain ⟨x,hx,he⟩:=List.any_eq_true.1 c
   have:=of_decide_eq_true he
   subst this
   simp [hx]
  ·rw [if_neg c] at h
   have:=Fz s rs (k+1) h
   simp only [List.flatten_cons,List.mem_append]
   exact Or.inr this
theorem FB {s:ByteArray} (h:1≤dO s):s∈lN:=Fz s bG 0 h
theorem xQ {op:ByteArray} (h:op∈lN) (h1: ¬op=fV) (h2: ¬op=jR) (p:Nat) (l r:Int) (e:Asc):gq op p l r e≠ .no:=by
 unfold gq
 by_cases c:r=0∧(op=Jv∨op=Ju)
 ·rw [if_pos c];simp
 rw [if_neg c]
 have key: ∃x,kK op l r=some x:=by
  simp only [lN,bG,List.flatten_cons,List.flatten_nil,List.append_nil,List.cons_append,List.nil_append,List.mem_cons,List.not_mem_nil,or_false] at h
  rcases h with rfl | rfl | rfl | rfl | rfl | rfl | rfl | rfl | rfl | rfl | rfl | rfl | rfl | rfl | rfl | rfl | rfl | rfl
  ·exact absurd rfl h2
  ·exact absurd rfl h1
  all_goals first
   | exact ⟨_,rfl⟩
   | (have hr: ¬r=0:=fun e=>c ⟨e,by first | exact Or.inl rfl | exact Or.inr rfl⟩
      refine Option.isSome_iff_exists.1 ?_
      unfold kK
      simp only [if_neg hr]
      rfl)
 obtain ⟨x,hx⟩:=key
 rw [hx]
 simp
theorem Gw {op:ByteArray} (h:op∈WU) (v:Int) (e:Asc):ig op v e≠ .no:=by
 unfold ig
 have key: ∃x,kK op 0 v=some x:=by
  simp only [WU,List.mem_cons,List.not_mem_nil,or_false] at h
  rcases h with rfl | rfl | rfl | rfl<;>exact ⟨_,rfl⟩
 obtain ⟨x,hx⟩:=key
 rw [hx]
 simp
theorem sS (v:Int) (e:Asc):ig eX v e≠ .no:=by
 unfold ig
 have key: ∃x,kK eX 0 v=some x:=⟨_,rfl⟩
 obtain ⟨x,hx⟩:=key
 rw [hx]
 simp
theorem eU {r:Rv} {f:Int→Asc→Rv} (h:r≠ .no) (hf: ∀v e,f v e≠ .no):r.then f≠ .no:=by
 cases r with
 | ok v e=>exact hf v e
 | bad c p=>simp [Rv.then]
 | no=>exact absurd rfl h
end Go.Proofs.YtacfglopionkfaaGreatDoor
