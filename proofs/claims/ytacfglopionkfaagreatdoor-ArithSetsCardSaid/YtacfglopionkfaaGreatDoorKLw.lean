import Derived.Test.YtacfglopionkfaaGreatDoorKOs
import Derived.Laws.Closers25b
namespace Go.Proofs.YtacfglopionkfaaGreatDoor
open Go.RowKit
structure Ins where
 k:Nat
 n:Int
 nm:ByteArray
 op:ByteArray
 p:Nat
 tg:Nat
def Ins.cells (i:Ins):List Value:=[.int .i64 i.k,.int .i64 i.n,.string i.nm,.string i.op,.int .i64 i.p,.int .i64 i.tg]
def lT (n:Int):Ins:=⟨0,n,ak,ak,0,0⟩
def dU (s:ByteArray) (p:Nat):Ins:=⟨1,0,s,ak,p,0⟩
def jC (s:ByteArray):Ins:=⟨2,0,s,ak,0,0⟩
def mV (op:ByteArray):Ins:=⟨3,0,ak,op,0,0⟩
def mQ (op:ByteArray) (p:Nat):Ins:=⟨4,0,ak,op,p,0⟩
def qA (tg:Nat):Ins:=⟨5,0,ak,ak,0,tg⟩
def eH (tg:Nat):Ins:=⟨6,0,ak,ak,0,tg⟩
def eX:ByteArray:=⟨#[116,114,117,116,104]⟩
def fV:ByteArray:=⟨#[38,38]⟩
def jR:ByteArray:=⟨#[124,124]⟩
def bF (s:ByteArray):ByteArray:=⟨(Lib.trimSuffix s.data.toList [61]).toArray⟩
def jH (A B:List Ins) (k:Nat):List Ins:=A++(qA (k+A.length+1+B.length+2)::(B++[mV eX,eH (k+A.length+1+B.length+3),lT 0]))
def lK (A B:List Ins) (k:Nat):List Ins:=A++(qA (k+A.length+3)::lT 1::eH (k+A.length+3+B.length+1)::(B++[mV eX]))
def mY (A B C:List Ins) (k:Nat):List Ins:=A++(qA (k+A.length+1+B.length+1)::(B++(eH (k+A.length+1+B.length+1+C.length)::C)))
def comp:Tr→Nat→List Ins
 | .num n _,_=>[lT n]
 | .name s p,_=>[dU s p]
 | .un op _ a,k=>comp a k++[mV op]
 | .bin op p a b,k=>
  if op=fV then jH (comp a k) (comp b (k+(comp a k).length+1)) k
  else if op=jR then lK (comp a k) (comp b (k+(comp a k).length+3)) k
  else comp a k++(comp b (k+(comp a k).length)++[mQ op p])
 | .cond _ _ a b c,k=>mY (comp a k) (comp b (k+(comp a k).length+1)) (comp c (k+(comp a k).length+1+(comp b (k+(comp a k).length+1)).length+1)) k
 | .eF op s p q a,k=>
  if bF op=ak then comp a k++[jC s]
  else dU s p::(comp a (k+1)++[mQ (bF op) q,jC s])
abbrev Asc:=List (ByteArray × Int)
def look:Asc→ByteArray→Option Int
 | [],_=>none
 | (k,v)::r,s=>if k=s then some v else look r s
inductive Rv
 | ok (v:Int) (e:Asc)
 | bad (c p:Nat)
 | no
def JR:ByteArray:=⟨#[43]⟩
def SX:ByteArray:=⟨#[42]⟩
def Jv:ByteArray:=⟨#[47]⟩
def Ju:ByteArray:=⟨#[37]⟩
theorem Zx (r:Int): ∃n:Nat,n<64∧bits .and .i64 r 63=(n:Int):=by
 refine ⟨(BitVec.ofInt 64 r &&& BitVec.ofInt 64 63).toNat,?_,?_⟩
 ·rw [BitVec.toNat_and]
  exact Nat.lt_of_le_of_lt Nat.and_le_right (by decide)
 ·have h:(BitVec.ofInt 64 r &&& BitVec.ofInt 64 63).toNat<64:=by
   rw [BitVec.toNat_and]
   exact Nat.lt_of_le_of_lt Nat.and_le_right (by decide)
  show IntKind.i64.wrap ((BitVec.ofInt 64 r &&& BitVec.ofInt 64 63).toNat:Int)=_
  rw [IntKind.wrap_i64]
  omega
def Jp (r:Int):Nat:=(bits .and .i64 r 63).toNat
theorem Dh (r:Int):bits .and .i64 r 63=(Jp r:Int)∧Jp r<64:=by
 obtain ⟨n,h1,h2⟩:=Zx r
 unfold Jp
 rw [h2]
 exact ⟨rfl,by simpa using h1⟩
def kK (op:ByteArray) (l r:Int):Option Int:=
 if op=JR then some (wrap64 (l+r)) else
 if op=SX then some (wrap64 (l*r)) else
 if op=⟨#[117,43]⟩ then some (wrap64 r) else
 if op=⟨#[117,45]⟩ then some (wrap64 (-r)) else
 if op=⟨#[45]⟩ then some (wrap64 (l - r)) else
 if op=⟨#[126]⟩ then some (bits .xor .i64 (-1) r) else
 if op=⟨#[94]⟩ then some (bits .xor .i64 l r) else
 if op=⟨#[38]⟩ then some (bits .and .i64 l r) else
 if op=⟨#[124]⟩ then some (bits .or .i64 l r) else
 if op=⟨#[47]⟩ then (if r=0 then none else some (wrap64 (l.tdiv r))) else
 if op=⟨#[37]⟩ then (if r=0 then none else some (l.tmod r)) else
 if op=⟨#[60,60]⟩ then some (wrap64 (l*2 ^ Jp r)) else
 if op=⟨#[62,62]⟩ then some (l / 2 ^ Jp r) else
 if op=⟨#[116,114,117,116,104]⟩ then some (if r≠0 then 1 else 0) else
 if op=⟨#[33,61]⟩ then some (if l≠r then 1 else 0) else
 if op=⟨#[33]⟩ then some (if r=0 then 1 else 0) else
 if op=⟨#[61,61]⟩ then some (if l=r then 1 else 0) else
 if op=⟨#[62]⟩ then some (if r<l then 1 else 0) else
 if op=⟨#[60]⟩ then some (if l<r then 1 else 0) else
 if op=⟨#[62,61]⟩ then some (if r≤l then 1 else 0) else
 if op=⟨#[60,61]⟩ then some (if l≤r then 1 else 0) else
 none
def ig (op:ByteArray) (v:Int) (e:Asc):Rv:=match kK op 0 v with | some x=> .ok x e | none=> .no
def gq (op:ByteArray) (p:Nat) (l r:Int) (e:Asc):Rv:=if r=0∧(op=Jv∨op=Ju) then .bad 12 p else match kK op l r with | some x=> .ok x e | none=> .no
def jZ (NV:ByteArray→Int × Nat) (s:ByteArray) (p:Nat) (e:Asc):Rv:=match look e s with | some v=> .ok v e | none=>if (NV s).2=0 then .ok (NV s).1 e else .bad (NV s).2 p
def Rv.then (r:Rv) (f:Int→Asc→Rv):Rv:=match r with | .ok v e=>f v e | .bad c p=> .bad c p | .no=> .no
def ev (NV:ByteArray→Int × Nat):Tr→Asc→Rv
 | .num n _,e=> .ok n e
 | .name s p,e=>jZ NV s p e
 | .un op _ a,e=>(ev NV a e).then fun v e1=>ig op v e1
 | .bin op p a b,e=>(ev NV a e).then fun v e1=>
  if op=fV then (if v=0 then .ok 0 e1 else (ev NV b e1).then fun u e2=>ig eX u e2)
  else if op=jR then (if v=0 then (ev NV b e1).then fun u e2=>ig eX u e2 else .ok 1 e1)
  else (ev NV b e1).then fun u e2=>gq op p v u e2
 | .cond _ _ a b c,e=>(ev NV a e).then fun v e1=>if v=0 then ev NV c e1 else ev NV b e1
 | .eF op s p q a,e=>
  if bF op=ak then (ev NV a e).then fun v e1=> .ok v ((s,v)::e1)
  else (jZ NV s p e).then fun v e1=>(ev NV a e1).then fun u e2=>(gq (bF op) q v u e2).then fun x e3=> .ok x ((s,x)::e3)
def need:Tr→Nat
 | .num _ _=>1
 | .name _ _=>1
 | .un _ _ a=>1+need a
 | .bin _ _ a b=>1+need a+need b
 | .cond _ _ a b c=>1+need a+need b+need c
 | .eF _ _ _ _ a=>1+need a
theorem sF: ∀t:Tr,1≤need t:=by
 intro t
 cases t<;>simp [need]<;>omega
structure Ms where
 a:Nat
 st:List Int
 se:Asc
inductive So
 | go (m:Ms)
 | bad (c p:Nat)
def kN (n:Int) (m:Ms):Option So:=if m.st.length<1024 then some (.go ⟨m.a,n::m.st,m.se⟩) else none
def Gn (r:Rv) (m:Ms) (st:List Int):Option So:=match r with | .ok v _=>some (.go ⟨m.a,v::st,m.se⟩) | .bad c p=>some (.bad c p) | .no=>none
def Bf (NV:ByteArray→Int × Nat) (i:Ins) (m:Ms):Option So:=
 match i.k with
 | 0=>kN i.n m
 | 1=>match jZ NV i.nm i.p m.se with | .ok v _=>kN v m | .bad c p=>some (.bad c p) | .no=>none
 | 2=>match m.st with | v::_=>some (.go ⟨m.a,m.st,(i.nm,v)::m.se⟩) | []=>none
 | 3=>match m.st with | v::r=>Gn (ig i.op v m.se) m r | []=>none
 | 4=>match m.st with | u::v::r=>Gn (gq i.op i.p v u m.se) m r | _=>none
 | 5=>if m.a≤i.tg then (match m.st with | v::r=>some (.go ⟨if v=0 then i.tg else m.a,r,m.se⟩) | []=>none) else none
 | 6=>if m.a≤i.tg then some (.go ⟨i.tg,m.st,m.se⟩) else none
 | _=>none
def runs (NV:ByteArray→Int × Nat) (code:List Ins):Nat→Ms→Option So
 | 0,m=>if m.a=code.length then some (.go m) else none
 | r+1,m=>match code[m.a]? with
  | none=>none
  | some i=>match Bf NV i ⟨m.a+1,m.st,m.se⟩ with
   | some (.go m1)=>runs NV code r m1
   | some (.bad c p)=>some (.bad c p)
   | none=>none
theorem dB {NV:ByteArray→Int × Nat} {code:List Ins} {m m1:Ms} {i:Ins} {f:So} (hi:code[m.a]? =some i) (hs:Bf NV i ⟨m.a+1,m.st,m.se⟩=some (.go m1)) (h: ∃r,runs NV code r m1=some f): ∃r,runs NV code r m=some f:=by
 obtain ⟨r,h⟩:=h
 refine ⟨r+1,?_⟩
 simp only [runs,hi,hs,h]
theorem su {NV:ByteArray→Int × Nat} {code:List Ins} {m:Ms} {i:Ins} {c p:Nat} (hi:code[m.a]? =some i) (hs:Bf NV i ⟨m.a+1,m.st,m.se⟩=some (.bad c p)): ∃r,runs NV code r m=some (.bad c p):=by
 refine ⟨1,?_⟩
 simp only [runs,hi,hs]
theorem lF {NV:ByteArray→Int × Nat} {code:List Ins} {r a b:Nat} {st:List Int} {se:Asc} (h:a=b):runs NV code r ⟨a,st,se⟩=runs NV code r ⟨b,st,se⟩:=by rw [h]
def Has (code:List Ins) (k:Nat) (l:List Ins):Prop:= ∀j u,l[j]? =some u→code[k+j]? =some u
theorem Has.head {code:List Ins} {k:Nat} {i:Ins} {l:List Ins} (h:Has code k (i::l)):code[k]? =some i∧Has code (k+1) l:=
 ⟨h 0 i rfl,fun j u hu=>by have:=h (j+1) u (by simpa using hu);rw [←this];congr 1;omega⟩
theorem Has.app {code:List Ins} {k:Nat} {a b:List Ins} (h:Has code k (a++b)):Has code k a∧Has code (k+a.length) b:=by
 refine ⟨fun j u hu=>h j u ?_,fun j u hu=>?_⟩
 ·rw [List.getElem?_append_left (List.getElem?_eq_some_iff.1 hu).1];exact hu
 ·have:=h (a.length+j) u (by rw [List.getElem?_append_right (by omega),Nat.add_sub_cancel_left];exact hu)
  rw [←this];congr 1;omega
theorem Has.self (l:List Ins):Has l 0 l:=fun j u hu=>by rw [Nat.zero_add];exact hu
structure Seg (NV:ByteArray→Int × Nat) (code:List Ins) (t:Tr) (k n:Nat):Prop where
 ok: ∀(st:List Int) (e:Asc) (v:Int) (e':Asc) (f:So),st.length+need t≤1024→ev NV t e= .ok v e'→(∃r,runs NV code r ⟨k+n,v::st,e'⟩=some f)→ ∃r,runs NV code r ⟨k,st,e⟩=some f
 bad: ∀(st:List Int) (e:Asc) (c p:Nat),st.length+need t≤1024→ev NV t e= .bad c p→ ∃r,runs NV code r ⟨k,st,e⟩=some (.bad c p)
theorem Rv.then_ok {r:Rv} {f:Int→Asc→Rv} {v:Int} {e:Asc} (h:r.then f= .ok v e): ∃u e1,r= .ok u e1∧f u e1= .ok v e:=by
 cases r with
 | ok u e1=>exact ⟨u,e1,rfl,h⟩
 | bad c p=>exact absurd h (by simp [Rv.then])
 | no=>exact absurd h (by simp [Rv.then])
theorem Rv.bP {r:Rv} {f:Int→Asc→Rv} {c p:Nat} (h:r.then f= .bad c p):r= .bad c p∨ ∃u e1,r= .ok u e1∧f u e1= .bad c p:=by
 cases r with
 | ok u e1=>exact Or.inr ⟨u,e1,rfl,h⟩
 | bad c' p'=>exact Or.inl h
 | no=>exact absurd h (by simp [Rv.then])
theorem OI {NV:ByteArray→Int × Nat} {op:ByteArray} {a:Nat} {v:Int} {st:List Int} {e:Asc}:Bf NV (mV op) ⟨a,v::st,e⟩=Gn (ig op v e) ⟨a,v::st,e⟩ st:=rfl
theorem FC {NV:ByteArray→Int × Nat} {op:ByteArray} {p a:Nat} {u v:Int} {st:List Int} {e:Asc}:Bf NV (mQ op p) ⟨a,u::v::st,e⟩=Gn (gq op p v u e) ⟨a,u::v::st,e⟩ st:=rfl
theorem tK {NV:ByteArray→Int × Nat} {tg a:Nat} {v:Int} {st:List Int} {e:Asc} (h:a≤tg):Bf NV (qA tg) ⟨a,v::st,e⟩=some (.go ⟨if v=0 then tg else a,st,e⟩):=if_pos h
theorem wB {NV:ByteArray→Int × Nat} {tg a:Nat} {st:List Int} {e:Asc} (h:a≤tg):Bf NV (eH tg) ⟨a,st,e⟩=some (.go ⟨tg,st,e⟩):=if_pos h
theorem yN {NV:ByteArray→Int × Nat} {s:ByteArray} {a:Nat} {v:Int} {st:List Int} {e:Asc}:Bf NV (jC s) ⟨a,v::st,e⟩=some (.go ⟨a,v::st,(s,v)::e⟩):=rfl
theorem vZ {NV:ByteArray→Int × Nat} {n:Int} {a:Nat} {st:List Int} {e:Asc} (h:st.length<1024):Bf NV (lT n) ⟨a,st,e⟩=some (.go ⟨a,n::st,e⟩):=by
 show kN _ _=_
 unfold kN
 rw [if_pos h]
 rfl
theorem jG {op:ByteArray} {v x:Int} {e e':Asc} (h:ig op v e= .ok x e'):e'=e:=by
 unfold ig at h
 split at h<;>simp at h
 exact h.2.symm
theorem lV {op:ByteArray} {v:Int} {e:Asc} {c p:Nat} (h:ig op v e= .bad c p):False:=by
 unfold ig at h
 split at h<;>simp at h
theorem l9 {op:ByteArray} {q:Nat} {l r x:Int} {e e':Asc} (h:gq op q l r e= .ok x e'):e'=e:=by
 unfold gq at h
 split at h
 ·simp at h
 ·split at h<;>simp at h
  exact h.2.symm
theorem mX {NV:ByteArray→Int × Nat} {s:ByteArray} {p:Nat} {x:Int} {e e':Asc} (h:jZ NV s p e= .ok x e'):e'=e:=by
 unfold jZ at h
 split at h
 ·simp at h;exact h.2.symm
 ·split at h<;>simp at h
  exact h.2.symm
theorem wz {NV:ByteArray→Int × Nat} {s:ByteArray} {p a:Nat} {x:Int} {st:List Int} {e e':Asc} (h:jZ NV s p e= .ok x e') (hl:st.length<1024):Bf NV (dU s p) ⟨a,st,e⟩=some (.go ⟨a,x::st,e⟩):=by
 show (match jZ NV s p e with | .ok v _=>kN v ⟨a,st,e⟩ | .bad c p=>some (.bad c p) | .no=>none)=_
 rw [h]
 show kN _ _=_
 unfold kN
 rw [if_pos hl]
theorem yO {NV:ByteArray→Int × Nat} {s:ByteArray} {p a:Nat} {c q:Nat} {st:List Int} {e:Asc} (h:jZ NV s p e= .bad c q):Bf NV (dU s p) ⟨a,st,e⟩=some (.bad c q):=by
 show (match jZ NV s p e with | .ok v _=>kN v ⟨a,st,e⟩ | .bad c p=>some (.bad c p) | .no=>none)=_
 rw [h]
theorem wu {NV:ByteArray→Int × Nat} {op:ByteArray} {a:Nat} {v x:Int} {st:List Int} {e e':Asc} (h:ig op v e= .ok x e'):Bf NV (mV op) ⟨a,v::st,e⟩=some (.go ⟨a,x::st,e⟩):=by
 rw [OI,h];rfl
theorem BD {NV:ByteArray→Int × Nat} {op:ByteArray} {p a:Nat} {u v x:Int} {st:List Int} {e e':Asc} (h:gq op p v u e= .ok x e'):Bf NV (mQ op p) ⟨a,u::v::st,e⟩=some (.go ⟨a,x::st,e⟩):=by
 rw [FC,h];rfl
theorem BF {NV:ByteArray→Int × Nat} {op:ByteArray} {p a:Nat} {u v:Int} {c q:Nat} {st:List Int} {e:Asc} (h:gq op p v u e= .bad c q):Bf NV (mQ op p) ⟨a,u::v::st,e⟩=some (.bad c q):=by
 rw [FC,h];rfl
theorem aW: ∀(t:Tr) (k j:Nat),(comp t k).length=(comp t j).length
 | .num _ _,_,_=>rfl
 | .name _ _,_,_=>rfl
 | .un op _ a,k,j=>by simp only [comp,List.length_append];rw [aW a k j]
 | .bin op p a b,k,j=>by
  simp only [comp]
  rw [aW a k j]
  split
  ·simp only [jH,List.length_append,List.length_cons,List.length_nil];rw [aW a k j,aW b _ (j+(comp a j).length+1)]
  ·split
   ·simp only [lK,List.length_append,List.length_cons,List.length_nil];rw [aW a k j,aW b _ (j+(comp a j).length+3)]
   ·simp only [List.length_append,List.length_cons,List.length_nil];rw [aW a k j,aW b _ (j+(comp a j).length)]
 | .cond _ _ a b c,k,j=>by
  simp only [comp,mY,List.length_append,List.length_cons]
  rw [aW a k j,aW b _ (j+(comp a j).length+1),aW c _ (j+(comp a j).length+1+(comp b (j+(comp a j).length+1)).length+1)]
 | .eF op s p q a,k,j=>by
  simp only [comp]
  split
  ·simp only [List.length_append];rw [aW a k j]
  ·simp only [List.length_append,List.length_cons];rw [aW a (k+1) (j+1)]
theorem gX (NV:ByteArray→Int × Nat) (code:List Ins): ∀(t:Tr) (k:Nat),Has code k (comp t k)→Seg NV code t k (comp t k).length
 | .num n p,k,h=>by
  have h0:=h.head.1
  refine ⟨fun st e v e' f hl hv hr=>?_,fun st e c p hl hv=>?_⟩
  ·simp only [ev,Rv.ok.injEq] at hv
   obtain ⟨rfl,rfl⟩:=hv
   exact dB h0 (vZ (by simp only [need] at hl;show st.length<1024;omega)) hr
  ·simp [ev] at hv
 | .name s q,k,h=>by
  have h0:=h.head.1
  refine ⟨fun st e v e' f hl hv hr=>?_,fun st e c p hl hv=>?_⟩
  ·simp only [ev] at hv
   have he:=mX hv
   subst he
   exact dB h0 (wz hv (by simp only [need] at hl;show st.length<1024;omega)) hr
  ·simp only [ev] at hv
   exact su h0 (yO hv)
 | .un op q a,k,h=>by
  obtain ⟨ha,hb⟩:=Has.app (show Has code k (comp a k++[mV op]) from h)
  have hn:(comp (.un op q a) k).length=(comp a k).length+1:=by simp [comp]
  have ia:=gX NV code a k ha
  refine ⟨fun st e v e' f hl hv hr=>?_,fun st e c p hl hv=>?_⟩
  ·simp only [need] at hl
   obtain ⟨u,e1,h1,h2⟩:=Rv.then_ok (show (ev NV a e).then (fun v e1=>ig op v e1)=_ from hv)
   have he:=jG h2
   subst he
   refine ia.ok st e u _ f (by omega) h1 (dB (hb.head.1) (wu h2) ?_)
   rw [hn] at hr
   exact hr
  ·simp only [need] at hl
   rcases Rv.bP (show (ev NV a e).then (fun v e1=>ig op v e1)=_ from hv) with h1 | ⟨u,e1,h1,h2⟩
   ·exact ia.bad st e c p (by omega) h1
   ·exact (lV h2).elim
 | .bin op q a b,k,h=>by
  by_cases h1:op=fV
  ·have hc:comp (.bin op q a b) k=jH (comp a k) (comp b (k+(comp a k).length+1)) k:=by simp only [comp];rw [if_pos h1]
   have he: ∀e,ev NV (.bin op q a b) e=(ev NV a e).then fun v e1=>if v=0 then .ok 0 e1 else (ev NV b e1).then fun u e2=>ig eX u e2:=fun e=>by simp only [ev];simp only [if_pos h1]
   rw [hc] at h⊢
   obtain ⟨ha,hb⟩:=h.app
   obtain ⟨g0,hb⟩:=hb.head
   obtain ⟨hb,hd⟩:=hb.app
   obtain ⟨g1,hd⟩:=hd.head
   obtain ⟨g2,hd⟩:=hd.head
   obtain ⟨g3,_⟩:=hd.head
   have ia:=gX NV code a k ha
   have ib:=gX NV code b _ hb
   have hn:(jH (comp a k) (comp b (k+(comp a k).length+1)) k).length=(comp a k).length+1+(comp b (k+(comp a k).length+1)).length+3:=by simp [jH];omega
   rw [hn]
   generalize (comp a k).length=na at*
   generalize (comp b (k+na+1)).length=nb at*
   refine ⟨fun st e v e' f hl hv hr=>?_,fun st e c p hl hv=>?_⟩
   ·simp only [need] at hl
    rw [he] at hv
    obtain ⟨u,e1,i1,i2⟩:=Rv.then_ok hv
    refine ia.ok st e u e1 f (by omega) i1 (dB g0 (tK (by first | omega | (dsimp only;omega))) ?_)
    by_cases hu:u=0
    ·rw [if_pos hu] at i2⊢
     simp only [Rv.ok.injEq] at i2
     obtain ⟨rfl,rfl⟩:=i2
     refine dB (i:=lT 0) (show code[k+na+1+nb+2]? =_ by rw [←g3]) (vZ (show st.length<1024 by omega)) ?_
     obtain ⟨r,hr⟩:=hr
     exact ⟨r,by rw [←hr];exact lF (by first | omega | (dsimp only;omega))⟩
    ·rw [if_neg hu] at i2⊢
     obtain ⟨x,e2,j1,j2⟩:=Rv.then_ok i2
     have hq:=jG j2
     subst hq
     refine ib.ok st e1 x _ f (by omega) j1 (dB g1 (wu j2) (dB g2 (wB (by first | omega | (dsimp only;omega))) ?_))
     obtain ⟨r,hr⟩:=hr
     exact ⟨r,by rw [←hr];exact lF (by first | omega | (dsimp only;omega))⟩
   ·simp only [need] at hl
    rw [he] at hv
    rcases Rv.bP hv with i1 | ⟨u,e1,i1,i2⟩
    ·exact ia.bad st e c p (by omega) i1
    ·refine ia.ok st e u e1 _ (by omega) i1 (dB g0 (tK (by first | omega | (dsimp only;omega))) ?_)
     by_cases hu:u=0
     ·rw [if_pos hu] at i2
      simp at i2
     ·rw [if_neg hu] at i2⊢
      rcases Rv.bP i2 with j1 | ⟨x,e2,j1,j2⟩
      ·exact ib.bad st e1 c p (by omega) j1
      ·exact (lV j2).elim
  by_cases h2:op=jR
  ·have hc:comp (.bin op q a b) k=lK (comp a k) (comp b (k+(comp a k).length+3)) k:=by simp only [comp];rw [if_neg h1,if_pos h2]
   have he: ∀e,ev NV (.bin op q a b) e=(ev NV a e).then fun v e1=>if v=0 then (ev NV b e1).then fun u e2=>ig eX u e2 else .ok 1 e1:=fun e=>by simp only [ev];simp only [if_neg h1,if_pos h2]
   rw [hc] at h⊢
   obtain ⟨ha,hb⟩:=h.app
   obtain ⟨g0,hb⟩:=hb.head
   obtain ⟨g1,hb⟩:=hb.head
   obtain ⟨g2,hb⟩:=hb.head
   obtain ⟨hb,hd⟩:=hb.app
   obtain ⟨g3,_⟩:=hd.head
   have ia:=gX NV code a k ha
   have ib:=gX NV code b _ hb
   have hn:(lK (comp a k) (comp b (k+(comp a k).length+3)) k).length=(comp a k).length+3+(comp b (k+(comp a k).length+3)).length+1:=by simp [lK];omega
   rw [hn]
   generalize (comp a k).length=na at*
   generalize (comp b (k+na+3)).length=nb at*
   refine ⟨fun st e v e' f hl hv hr=>?_,fun st e c p hl hv=>?_⟩
   ·simp only [need] at hl
    rw [he] at hv
    obtain ⟨u,e1,i1,i2⟩:=Rv.then_ok hv
    refine ia.ok st e u e1 f (by omega) i1 (dB g0 (tK (by first | omega | (dsimp only;omega))) ?_)
    by_cases hu:u=0
    ·rw [if_pos hu] at i2⊢
     obtain ⟨x,e2,j1,j2⟩:=Rv.then_ok i2
     have hq:=jG j2
     subst hq
     refine ib.ok st e1 x _ f (by omega) j1 (dB g3 (wu j2) ?_)
     obtain ⟨r,hr⟩:=hr
     exact ⟨r,by rw [←hr];exact lF (by first | omega | (dsimp only;omega))⟩
    ·rw [if_neg hu] at i2⊢
     simp only [Rv.ok.injEq] at i2
     obtain ⟨rfl,rfl⟩:=i2
     refine dB g1 (vZ (show st.length<1024 by omega)) (dB g2 (wB (by first | omega | (dsimp only;omega))) ?_)
     obtain ⟨r,hr⟩:=hr
     exact ⟨r,by rw [←hr];exact lF (by first | omega | (dsimp only;omega))⟩
   ·simp only [need] at hl
    rw [he] at hv
    rcases Rv.bP hv with i1 | ⟨u,e1,i1,i2⟩
    ·exact ia.bad st e c p (by omega) i1
    ·refine ia.ok st e u e1 _ (by omega) i1 (dB g0 (tK (by first | omega | (dsimp only;omega))) ?_)
     by_cases hu:u=0
     ·rw [if_pos hu] at i2⊢
      rcases Rv.bP i2 with j1 | ⟨x,e2,j1,j2⟩
      ·exact ib.bad st e1 c p (by omega) j1
      ·exact (lV j2).elim
     ·rw [if_neg hu] at i2
      simp at i2
  ·have hc:comp (.bin op q a b) k=comp a k++(comp b (k+(comp a k).length)++[mQ op q]):=by simp only [comp];rw [if_neg h1,if_neg h2]
   have he: ∀e,ev NV (.bin op q a b) e=(ev NV a e).then fun v e1=>(ev NV b e1).then fun u e2=>gq op q v u e2:=fun e=>by simp only [ev];simp only [if_neg h1,if_neg h2]
   rw [hc] at h⊢
   obtain ⟨ha,hb⟩:=h.app
   obtain ⟨hb,hd⟩:=hb.app
   obtain ⟨g1,_⟩:=hd.head
   have ia:=gX NV code a k ha
   have ib:=gX NV code b _ hb
   have hn:(comp a k++(comp b (k+(comp a k).length)++[mQ op q])).length=(comp a k).length+(comp b (k+(comp a k).length)).length+1:=by simp;omega
   rw [hn]
   generalize (comp a k).length=na at*
   generalize (comp b (k+na)).length=nb at*
   refine ⟨fun st e v e' f hl hv hr=>?_,fun st e c p hl hv=>?_⟩
   ·simp only [need] at hl
    have hpa:=sF a
    rw [he] at hv
    obtain ⟨u,e1,i1,i2⟩:=Rv.then_ok hv
    obtain ⟨x,e2,j1,j2⟩:=Rv.then_ok i2
    have hq:=l9 j2
    subst hq
    refine ia.ok st e u e1 f (by omega) i1 (ib.ok (u::st) e1 x _ f (by simp only [List.length_cons];omega) j1 (dB g1 (BD j2) ?_))
    obtain ⟨r,hr⟩:=hr
    exact ⟨r,by rw [←hr];exact lF (by first | omega | (dsimp only;omega))⟩
   ·simp only [need] at hl
    have hpa:=sF a
    rw [he] at hv
    rcases Rv.bP hv with i1 | ⟨u,e1,i1,i2⟩
    ·exact ia.bad st e c p (by omega) i1
    ·refine ia.ok st e u e1 _ (by omega) i1 ?_
     rcases Rv.bP i2 with j1 | ⟨x,e2,j1,j2⟩
     ·exact ib.bad (u::st) e1 c p (by simp only [List.length_cons];omega) j1
     ·exact ib.ok (u::st) e1 x e2 _ (by simp only [List.length_cons];omega) j1 (su g1 (BF j2))
 | .cond op q a b c0,k,h=>by
  have hc:comp (.cond op q a b c0) k=mY (comp a k) (comp b (k+(comp a k).length+1)) (comp c0 (k+(comp a k).length+1+(comp b (k+(comp a k).length+1)).length+1)) k:=rfl
  have he: ∀e,ev NV (.cond op q a b c0) e=(ev NV a e).then fun v e1=>if v=0 then ev NV c0 e1 else ev NV b e1:=fun e=>rfl
  rw [hc] at h⊢
  obtain ⟨ha,hb⟩:=h.app
  obtain ⟨g0,hb⟩:=hb.head
  obtain ⟨hb,hd⟩:=hb.app
  obtain ⟨g1,hd⟩:=hd.head
  have ia:=gX NV code a k ha
  have ib:=gX NV code b _ hb
  have ic:=gX NV code c0 _ hd
  have hn:(mY (comp a k) (comp b (k+(comp a k).length+1)) (comp c0 (k+(comp a k).length+1+(comp b (k+(comp a k).length+1)).length+1)) k).length=(comp a k).length+1+(comp b (k+(comp a k).length+1)).length+1+(comp c0 (k+(comp a k).length+1+(comp b (k+(comp a k).length+1)).length+1)).length:=by simp [mY];omega
  rw [hn]
  generalize (comp a k).length=na at*
  generalize (comp b (k+na+1)).length=nb at*
  generalize (comp c0 (k+na+1+nb+1)).length=nc at*
  refine ⟨fun st e v e' f hl hv hr=>?_,fun st e c p hl hv=>?_⟩
  ·simp only [need] at hl
   rw [he] at hv
   obtain ⟨u,e1,i1,i2⟩:=Rv.then_ok hv
   refine ia.ok st e u e1 f (by omega) i1 (dB g0 (tK (by first | omega | (dsimp only;omega))) ?_)
   by_cases hu:u=0
   ·rw [if_pos hu] at i2⊢
    refine ic.ok st e1 v e' f (by omega) i2 ?_
    obtain ⟨r,hr⟩:=hr
    exact ⟨r,by rw [←hr];exact lF (by first | omega | (dsimp only;omega))⟩
   ·rw [if_neg hu] at i2⊢
    refine ib.ok st e1 v e' f (by omega) i2 (dB g1 (wB (by first | omega | (dsimp only;omega))) ?_)
    obtain ⟨r,hr⟩:=hr
    exact ⟨r,by rw [←hr];exact lF (by first | omega | (dsimp only;omega))⟩
  ·simp only [need] at hl
   rw [he] at hv
   rcases Rv.bP hv with i1 | ⟨u,e1,i1,i2⟩
   ·exact ia.bad st e c p (by omega) i1
   ·refine ia.ok st e u e1 _ (by omega) i1 (dB g0 (tK (by first | omega | (dsimp only;omega))) ?_)
    by_cases hu:u=0
    ·rw [if_pos hu] at i2⊢
     exact ic.bad st e1 c p (by omega) i2
    ·rw [if_neg hu] at i2⊢
     exact ib.bad st e1 c p (by omega) i2
 | .eF op s q1 q2 a,k,h=>by
  by_cases h1:bF op=ak
  ·have hc:comp (.eF op s q1 q2 a) k=comp a k++[jC s]:=by simp only [comp];rw [if_pos h1]
   have he: ∀e,ev NV (.eF op s q1 q2 a) e=(ev NV a e).then fun v e1=> .ok v ((s,v)::e1):=fun e=>by simp only [ev];rw [if_pos h1]
   rw [hc] at h⊢
   obtain ⟨ha,hb⟩:=h.app
   obtain ⟨g0,_⟩:=hb.head
   have ia:=gX NV code a k ha
   have hn:(comp a k++[jC s]).length=(comp a k).length+1:=by simp
   rw [hn]
   refine ⟨fun st e v e' f hl hv hr=>?_,fun st e c p hl hv=>?_⟩
   ·simp only [need] at hl
    rw [he] at hv
    obtain ⟨u,e1,i1,i2⟩:=Rv.then_ok hv
    simp only [Rv.ok.injEq] at i2
    obtain ⟨rfl,rfl⟩:=i2
    exact ia.ok st e u e1 f (by omega) i1 (dB g0 yN hr)
   ·simp only [need] at hl
    rw [he] at hv
    rcases Rv.bP hv with i1 | ⟨u,e1,i1,i2⟩
    ·exact ia.bad st e c p (by omega) i1
    ·simp at i2
  ·have hc:comp (.eF op s q1 q2 a) k=dU s q1::(comp a (k+1)++[mQ (bF op) q2,jC s]):=by simp only [comp];rw [if_neg h1]
   have he: ∀e,ev NV (.eF op s q1 q2 a) e=(jZ NV s q1 e).then fun v e1=>(ev NV a e1).then fun u e2=>(gq (bF op) q2 v u e2).then fun x e3=> .ok x ((s,x)::e3):=fun e=>by simp only [ev];rw [if_neg h1]
   rw [hc] at h⊢
   obtain ⟨g0,hb⟩:=h.head
   obtain ⟨ha,hb⟩:=hb.app
   obtain ⟨g1,hb⟩:=hb.head
   obtain ⟨g2,_⟩:=hb.head
   have ia:=gX NV code a _ ha
   have hn:(dU s q1::(comp a (k+1)++[mQ (bF op) q2,jC s])).length=1+(comp a (k+1)).length+2:=by simp;omega
   rw [hn]
   generalize (comp a (k+1)).length=na at*
   refine ⟨fun st e v e' f hl hv hr=>?_,fun st e c p hl hv=>?_⟩
   ·simp only [need] at hl
    have hpa:=sF a
    rw [he] at hv
    obtain ⟨u,e1,i1,i2⟩:=Rv.then_ok hv
    have hq:=mX i1
    subst hq
    obtain ⟨x,e2,j1,j2⟩:=Rv.then_ok i2
    obtain ⟨y,e3,k1,k2⟩:=Rv.then_ok j2
    have hq:=l9 k1
    subst hq
    simp only [Rv.ok.injEq] at k2
    obtain ⟨rfl,rfl⟩:=k2
    refine dB g0 (wz i1 (show st.length<1024 by omega)) (ia.ok (u::st) e1 x _ f (by simp only [List.length_cons];omega) j1 (dB g1 (BD k1) (dB g2 yN ?_)))
    obtain ⟨r,hr⟩:=hr
    exact ⟨r,by rw [←hr];exact lF (by first | omega | (dsimp only;omega))⟩
   ·simp only [need] at hl
    have hpa:=sF a
    rw [he] at hv
    rcases Rv.bP hv with i1 | ⟨u,e1,i1,i2⟩
    ·exact su g0 (yO i1)
    ·have hq:=mX i1
     subst hq
     refine dB g0 (wz i1 (show st.length<1024 by omega)) ?_
     rcases Rv.bP i2 with j1 | ⟨x,e2,j1,j2⟩
     ·exact ia.bad (u::st) e1 c p (by simp only [List.length_cons];omega) j1
     ·refine ia.ok (u::st) e1 x e2 _ (by simp only [List.length_cons];omega) j1 ?_
      rcases Rv.bP j2 with k1 | ⟨y,e3,k1,k2⟩
      ·exact su g1 (BF k1)
      ·simp at k2
theorem Dv {NV:ByteArray→Int × Nat} {t:Tr} {v:Int} {e':Asc} (hn:need t≤1024) (h:ev NV t []= .ok v e'): ∃r,runs NV (comp t 0) r ⟨0,[],[]⟩=some (.go ⟨(comp t 0).length,[v],e'⟩):=by
 refine (gX NV (comp t 0) t 0 (Has.self _)).ok [] [] v e' _ (by simpa using hn) h ⟨0,?_⟩
 simp [runs]
theorem zQ {NV:ByteArray→Int × Nat} {t:Tr} {c p:Nat} (hn:need t≤1024) (h:ev NV t []= .bad c p): ∃r,runs NV (comp t 0) r ⟨0,[],[]⟩=some (.bad c p):=
 (gX NV (comp t 0) t 0 (Has.self _)).bad [] [] c p (by simpa using hn) h
theorem tok_sp {L y r:List Int} (hL:L=y++32::r):tok L y.length=tok L (y.length+1):=by
 have e:ay L y.length=ay L (y.length+1):=by
  unfold ay
  rw [hL,List.drop_left,show (y++32::r).drop (y.length+1)=r by rw [Sj];rfl]
  have:pre bM (32::r)=pre bM r+1:=by simp [pre,bM]
  omega
 unfold tok
 rw [e]
theorem oe {x:Int} {m:List Int} (h:0≤x∧x≤255∧x≠61∧x≠60∧x≠62∧x≠38∧x≠124):zB (x::m):=fun y k e=>by
 simp only [List.cons.injEq] at e
 rw [←e.1]
 exact h
theorem ZG {L:List Int} {e:Tr} {t:Tk} (h:yB L .expr (tok L 0) e t) (hk:t.kind=0) (hl:L.length≤1024): ∃n,cZ L n=some (.ok e t):=by
 obtain ⟨n,hn⟩:=h
 refine ⟨n,?_⟩
 unfold cZ mF
 rw [if_neg (by omega),show rd L n .expr (tok L 0)=_ from hn 0]
 simp only []
 rw [if_pos hk]
structure TF (X:List Int) (P:Tr→Prop):Prop where
 hd: ∃c m,X=c::m∧(c=40∨c=126∨c=33∨c=32∨c=45)
 at_: ∀L y r,L=y++(X++r)→(tok L y.length).kind=4∧ ∃e,P e∧yB L .iR (tok L y.length) e (tok L (y.length+X.length))
theorem TF.ends {X:List Int} {P:Tr→Prop} (h:TF X P) (r:List Int):zB (X++r):=by
 obtain ⟨c,m,rfl,hc⟩:=h.hd
 rcases hc with rfl | rfl | rfl | rfl | rfl<;>exact oe (by decide)
theorem opd_par {b:List Int} {n:Nat} {e:Tr} {t:Tk} (hb:cZ b n=some (.ok e t)):TF (40::(b++[41])) (fun x=> ∃k,x=e.sh k) where
 hd:=⟨40,_,rfl,Or.inl rfl⟩
 at_ L y r hL:=by
  obtain ⟨h1,h2⟩:=par_any hb (show L=y++(40::(b++(41::r))) by rw [hL];simp)
  exact ⟨by rw [h1],e.sh (y.length+1),⟨_,rfl⟩,by rw [show y.length+(40::(b++[41])).length=y.length+(b.length+2) by simp];exact h2⟩
theorem opd_sp {X:List Int} {P:Tr→Prop} (h:TF X P):TF (32::X) P where
 hd:=⟨32,_,rfl,by simp⟩
 at_ L y r hL:=by
  have T:=tok_sp (L:=L) (y:=y) (r:=X++r) (by rw [hL];simp)
  obtain ⟨hk,e,he,hr⟩:=h.at_ L (y++[32]) r (by rw [hL];simp)
  have hl:(y++[32]:List Int).length=y.length+1:=by simp
  rw [hl] at hk hr
  refine ⟨by rw [T];exact hk,e,he,?_⟩
  rw [T,show y.length+(32::X).length=y.length+1+X.length by simp;omega]
  exact hr
theorem ZF:Shut ak:=by unfold Shut;decide
def Tr.DW:Tr→Prop
 | .num _ _=>True
 | .name _ _=>True
 | .un _ _ a=>a.DW
 | .bin _ _ a b=>a.DW∧b.DW
 | .cond _ _ a b c=>a.DW∧b.DW∧c.DW
 | .eF _ _ _ _ _=>False
theorem FY (NV:ByteArray→Int × Nat): ∀(t:Tr) (e e':Asc) (v:Int),t.DW→ev NV t e= .ok v e'→e'=e
 | .num n p,e,e',v,_,h=>by simp only [ev,Rv.ok.injEq] at h;exact h.2.symm
 | .name s p,e,e',v,_,h=>mX (show jZ NV s p e=_ from h)
 | .un op p a,e,e',v,hn,h=>by
  obtain ⟨u,e1,h1,h2⟩:=Rv.then_ok (show (ev NV a e).then (fun v e1=>ig op v e1)=_ from h)
  have i1:=FY NV a e e1 u hn h1
  subst i1
  exact jG h2
 | .bin op p a b,e,e',v,hn,h=>by
  obtain ⟨u,e1,h1,h2⟩:=Rv.then_ok (show (ev NV a e).then _=_ from h)
  have i1:=FY NV a e e1 u hn.1 h1
  subst i1
  by_cases c1:op=fV
  ·rw [if_pos c1] at h2
   by_cases c:u=0
   ·rw [if_pos c] at h2;simp only [Rv.ok.injEq] at h2;exact h2.2.symm
   ·rw [if_neg c] at h2
    obtain ⟨x,e2,j1,j2⟩:=Rv.then_ok h2
    have i2:=FY NV b e1 e2 x hn.2 j1
    subst i2
    exact jG j2
  ·rw [if_neg c1] at h2
   by_cases c2:op=jR
   ·rw [if_pos c2] at h2
    by_cases c:u=0
    ·rw [if_pos c] at h2
     obtain ⟨x,e2,j1,j2⟩:=Rv.then_ok h2
     have i2:=FY NV b e1 e2 x hn.2 j1
     subst i2
     exact jG j2
    ·rw [if_neg c] at h2;simp only [Rv.ok.injEq] at h2;exact h2.2.symm
   ·rw [if_neg c2] at h2
    obtain ⟨x,e2,j1,j2⟩:=Rv.then_ok h2
    have i2:=FY NV b e1 e2 x hn.2 j1
    subst i2
    exact l9 j2
 | .cond op p a b c,e,e',v,hn,h=>by
  obtain ⟨u,e1,h1,h2⟩:=Rv.then_ok (show (ev NV a e).then _=_ from h)
  have i1:=FY NV a e e1 u hn.1 h1
  subst i1
  by_cases c0:u=0
  ·rw [if_pos c0] at h2;exact FY NV c e1 e' v hn.2.2 h2
  ·rw [if_neg c0] at h2;exact FY NV b e1 e' v hn.2.1 h2
 | .eF _ _ _ _ _,_,_,_,hn,_=>hn.elim
def Wo (NV:ByteArray→Int × Nat) (t:Tr) (v:Int):Prop:=ev NV t []= .ok v []
theorem ldR_sh {NV:ByteArray→Int × Nat} {s:ByteArray} {p q:Nat} {e e':Asc} {v:Int} (h:jZ NV s p e= .ok v e'):jZ NV s q e= .ok v e':=by
 unfold jZ at h⊢
 split at h
 ·exact h
 ·split at h
  ·rename_i hh;rw [if_pos hh];exact h
  ·cases h
theorem twoR_sh {op:ByteArray} {p q:Nat} {l r v:Int} {e e':Asc} (h:gq op p l r e= .ok v e'):gq op q l r e= .ok v e':=by
 unfold gq at h⊢
 split at h
 ·cases h
 ·rename_i hh
  rw [if_neg hh]
  exact h
theorem JW (NV:ByteArray→Int × Nat) (k:Nat): ∀(t:Tr) (e e':Asc) (v:Int),ev NV t e= .ok v e'→ev NV (t.sh k) e= .ok v e'
 | .num n p,e,e',v,h=>h
 | .name s p,e,e',v,h=>ldR_sh (show jZ NV s p e=_ from h)
 | .un op p a,e,e',v,h=>by
  obtain ⟨u,e1,h1,h2⟩:=Rv.then_ok (show (ev NV a e).then (fun v e1=>ig op v e1)=_ from h)
  show (ev NV (a.sh k) e).then _=_
  rw [JW NV k a e e1 u h1]
  exact h2
 | .bin op p a b,e,e',v,h=>by
  obtain ⟨u,e1,h1,h2⟩:=Rv.then_ok (show (ev NV a e).then _=_ from h)
  show (ev NV (a.sh k) e).then _=_
  rw [JW NV k a e e1 u h1]
  show (if op=fV then _ else _)=_
  by_cases c1:op=fV
  ·rw [if_pos c1] at h2⊢
   by_cases c:u=0
   ·rw [if_pos c] at h2⊢;exact h2
   ·rw [if_neg c] at h2⊢
    obtain ⟨x,e2,j1,j2⟩:=Rv.then_ok h2
    rw [JW NV k b e1 e2 x j1]
    exact j2
  ·rw [if_neg c1] at h2⊢
   by_cases c2:op=jR
   ·rw [if_pos c2] at h2⊢
    by_cases c:u=0
    ·rw [if_pos c] at h2⊢
     obtain ⟨x,e2,j1,j2⟩:=Rv.then_ok h2
     rw [JW NV k b e1 e2 x j1]
     exact j2
    ·rw [if_neg c] at h2⊢;exact h2
   ·rw [if_neg c2] at h2⊢
    obtain ⟨x,e2,j1,j2⟩:=Rv.then_ok h2
    rw [JW NV k b e1 e2 x j1]
    exact twoR_sh j2
 | .cond op p a b c,e,e',v,h=>by
  obtain ⟨u,e1,h1,h2⟩:=Rv.then_ok (show (ev NV a e).then _=_ from h)
  show (ev NV (a.sh k) e).then _=_
  rw [JW NV k a e e1 u h1]
  show (if u=0 then _ else _)=_
  by_cases c0:u=0
  ·rw [if_pos c0] at h2⊢;exact JW NV k c e1 e' v h2
  ·rw [if_neg c0] at h2⊢;exact JW NV k b e1 e' v h2
 | .eF op s p q a,e,e',v,h=>by
  by_cases h1:bF op=ak
  ·have he: ∀(a:Tr) (p q:Nat),ev NV (.eF op s p q a) e=(ev NV a e).then fun v e1=> .ok v ((s,v)::e1):=fun a p q=>by simp only [ev];rw [if_pos h1]
   rw [he] at h
   obtain ⟨u,e1,i1,i2⟩:=Rv.then_ok h
   show ev NV (.eF op s (k+p) (k+q) (a.sh k)) e=_
   rw [he,JW NV k a e e1 u i1]
   exact i2
  ·have he: ∀(a:Tr) (p q:Nat),ev NV (.eF op s p q a) e=(jZ NV s p e).then fun v e1=>(ev NV a e1).then fun u e2=>(gq (bF op) q v u e2).then fun x e3=> .ok x ((s,x)::e3):=fun a p q=>by simp only [ev];rw [if_neg h1]
   rw [he] at h
   obtain ⟨u,e1,i1,i2⟩:=Rv.then_ok h
   obtain ⟨x,e2,j1,j2⟩:=Rv.then_ok i2
   obtain ⟨y,e3,k1,k2⟩:=Rv.then_ok j2
   show ev NV (.eF op s (k+p) (k+q) (a.sh k)) e=_
   rw [he,ldR_sh i1]
   show (ev NV (a.sh k) e1).then _=_
   rw [JW NV k a e1 e2 x j1]
   show (gq (bF op) (k+q) u x e2).then _=_
   rw [twoR_sh k1]
   exact k2
theorem Wo.sh {NV:ByteArray→Int × Nat} {t:Tr} {v:Int} (h:Wo NV t v) (k:Nat):Wo NV (t.sh k) v:=JW NV k t [] [] v h
def Zd (l:List Int) (i:Nat):Prop:=l.getD i 0=61∧(((i=0∨(¬l.getD (i - 1) 0=61∧ ¬l.getD (i - 1) 0=33∧ ¬l.getD (i - 1) 0=60∧ ¬l.getD (i - 1) 0=62))∧(i+1=l.length∨ ¬l.getD (i+1) 0=61))∨(1<i∧l.getD (i - 1) 0=l.getD (i - 2) 0∧(l.getD (i - 1) 0=60∨l.getD (i - 1) 0=62)))
theorem QK (l:List Int): ∀L:List ByteArray,dJ l L=ak∨ ∃i,i<L.length∧L.getD i ak=dJ l L∧begins l (dJ l L)=true∧ ∀j,j<i→begins l (L.getD j ak)=false
 | []=>Or.inl rfl
 | s::r=>by
  by_cases h:begins l s=true
  ·right
   refine ⟨0,by simp,?_,?_,fun j hj=>by omega⟩
   ·simp [dJ,h]
   ·simp only [dJ,h,if_true]
  ·have e:dJ l (s::r)=dJ l r:=by simp [dJ,h]
   rw [e]
   rcases QK l r with h0 | ⟨i,h1,h2,h3,h4⟩
   ·exact Or.inl h0
   ·right
    refine ⟨i+1,by simpa using h1,by simpa using h2,h3,fun j hj=>?_⟩
    cases j with
    | zero=>simpa using h
    | succ j=>simpa using h4 j (by omega)
theorem RD {l:List Int} {s:ByteArray} (hb:nN l) (h:begins l s=true) (j:Nat) (hj:j<s.size):l.getD j 0=((s.data.toList.getD j 0).toNat:Int):=by
 rw [lQ] at h
 obtain ⟨h1,h2⟩:=h
 have hy:=hb j
 have hjl:j<l.length:=by omega
 have e1:(s.data.toList.getD j 0)=UInt8.ofNat (l.getD j 0).toNat:=by
  rw [←h2,List.getD_eq_getElem?_getD,List.getElem?_map,List.getElem?_take,if_pos hj,List.getElem?_eq_getElem hjl,List.getD_eq_getElem?_getD,List.getElem?_eq_getElem hjl]
  rfl
 rw [e1]
 simp only [UInt8.toNat_ofNat']
 omega
theorem asg_ops: ∀s∈aF,fZ s=true→s=⟨#[61]⟩∨(s.size=2∧s.data.toList.getD 1 0=61∧s.data.toList.getD 0 0∈[43,45,42,47,37,38,94,124])∨s=⟨#[60,60,61]⟩∨s=⟨#[62,62,61]⟩:=by decide
theorem eq_place: ∀i:Fin 35,aF.getD i.val ak=⟨#[61]⟩→14<i.val:=by decide
theorem eq_eq:aF.getD 14 ak=⟨#[61,61]⟩:=by decide
theorem ops_eq: ∀s∈aF,s.data.toList.getD 0 0=61→s=⟨#[61]⟩∨s=⟨#[61,61]⟩:=by decide
theorem nm_noasg {s:ByteArray} (h:uo s):fZ s=false:=by
 cases hq:fZ s with
 | false=>rfl
 | true=>
  exfalso
  have hs:Lib.hasSuffix s.data.toList [61]=true:=by
   unfold fZ at hq
   rw [Bool.and_eq_true] at hq
   exact hq.2
  unfold Lib.hasSuffix at hs
  rw [List.isSuffixOf_iff_suffix] at hs
  obtain ⟨p,hp⟩:=hs
  have hsz:s.size=p.length+1:=by
   have:s.data.toList.length=s.size:=by simp
   rw [←this, ←hp]
   simp
  have hb:(bT s).getD p.length 0=61:=by
   have:=qo s
   rw [←hp] at this
   have hl:p.length<(bT s).length:=by rw [bC];omega
   have e:=congrArg (fun t:List UInt8=>t[p.length]?) this
   simp only [List.getElem?_map,List.getElem?_append_right (Nat.le_refl _),Nat.sub_self,List.getElem?_cons_zero,List.getElem?_eq_getElem hl,Option.map_some,Option.some.injEq] at e
   have hy:=Bc s p.length
   rw [List.getD_eq_getElem?_getD,List.getElem?_eq_getElem hl] at hy⊢
   simp only [Option.getD_some] at hy⊢
   have e2:=congrArg UInt8.toNat e
   simp only [UInt8.toNat_ofNat'] at e2
   have:(61:UInt8).toNat=61:=rfl
   omega
  have hn:=(qH (bT s)).2.1 p.length (by rw [h.2];omega)
  unfold nameB at hn
  rw [hb] at hn
  simp [jh,jd] at hn
theorem before_op {l:List Int} {p0 k st:Nat} (h1:p0=st+k) (hk:0<k) (hn: ∀j,j<k→nameB (l.drop st) j=true) {p:Nat} (hp:p=ay l p0): ¬l.getD (p - 1) 0=61∧ ¬l.getD (p - 1) 0=33∧ ¬l.getD (p - 1) 0=60∧ ¬l.getD (p - 1) 0=62:=by
 have hge:p0≤p:=by rw [hp];exact wC l p0
 have hdr: ∀(a j:Nat),(l.drop a).getD j 0=l.getD (a+j) 0:=fun a j=>by
  rw [List.getD_eq_getElem?_getD,List.getElem?_drop, ←List.getD_eq_getElem?_getD]
 by_cases he:p=p0
 ·have h:=hn (k - 1) (by omega)
  unfold nameB at h
  rw [hdr,show st+(k - 1)=p - 1 by omega] at h
  generalize l.getD (p - 1) 0=c at*
  simp only [jh,jd,Bool.or_eq_true,Bool.and_eq_true,decide_eq_true_eq] at h
  omega
 ·have h:=pre_lt bM (l.drop p0) (p - 1 - p0) (by unfold ay at hp;omega)
  rw [hdr,show p0+(p - 1 - p0)=p - 1 by omega] at h
  generalize l.getD (p - 1) 0=c at*
  simp only [bM,Bool.or_eq_true,beq_iff_eq] at h
  omega
theorem asg_sets {l:List Int} (hb:nN l) {q:Nat} (hk:(tok l q).kind=3) (ha:fZ (tok l (tok l q).stop).text=true)
  (hnext: ¬((tok l (tok l q).stop).stop<l.length∧l.getD (tok l (tok l q).stop).stop 0=61)): ∃i,i<l.length∧Zd l i:=by
 have hdr: ∀(a j:Nat),(l.drop a).getD j 0=l.getD (a+j) 0:=fun a j=>by
  rw [List.getD_eq_getElem?_getD,List.getElem?_drop, ←List.getD_eq_getElem?_getD]
 obtain ⟨st,hst⟩: ∃st,st=ay l q:=⟨_,rfl⟩
 have ht:tok l q=gY (l.drop st) st:=by rw [hst];rfl
 have hnm:0<fC (l.drop st)∧(tok l q).stop=st+fC (l.drop st):=by
  rw [ht] at hk⊢
  unfold gY at hk⊢
  by_cases c0:(l.drop st).length=0
  ·rw [if_pos c0] at hk;exact absurd hk (show¬(0:Int)=3 by decide)
  rw [if_neg c0] at hk⊢
  by_cases c1:0<fC (l.drop st)
  ·rw [if_pos c1];exact ⟨c1,rfl⟩
  rw [if_neg c1] at hk
  by_cases c2:0<cN (l.drop st)
  ·rw [if_pos c2] at hk;exact absurd hk (show¬(2:Int)=3 by decide)
  rw [if_neg c2] at hk
  by_cases c3: ¬mG (l.drop st)=ak
  ·rw [if_pos c3] at hk;exact absurd hk (show¬(4:Int)=3 by decide)
  ·rw [if_neg c3] at hk;exact absurd hk (show¬(1:Int)=3 by decide)
 obtain ⟨hk0,hp0⟩:=hnm
 obtain ⟨p0,hp0e⟩: ∃p0,p0=(tok l q).stop:=⟨_,rfl⟩
 rw [←hp0e] at ha hnext hp0
 obtain ⟨p,hp⟩: ∃p,p=ay l p0:=⟨_,rfl⟩
 have hbe:=before_op hp0 hk0 (fun j hj=>(qH (l.drop st)).2.1 j hj) hp
 have hpge:p0≤p:=by rw [hp];exact wC l p0
 have hts:tok l p0=gY (l.drop p) p:=by rw [hp];rfl
 have his:=kD l hb p0
 have hk3: ¬(tok l p0).kind=3:=fun h=>by
  have:=nm_noasg (his.nm h)
  rw [ha] at this
  cases this
 have hop:mG (l.drop p)=(tok l p0).text∧(tok l p0).stop=p+(mG (l.drop p)).size∧ ¬mG (l.drop p)=ak:=by
  have hne:=og ha
  rw [hts] at hk3 hne⊢
  unfold gY at hk3 hne⊢
  by_cases c0:(l.drop p).length=0
  ·rw [if_pos c0] at hne;exact absurd rfl hne
  rw [if_neg c0] at hk3 hne⊢
  by_cases c1:0<fC (l.drop p)
  ·rw [if_pos c1] at hk3;exact absurd rfl hk3
  rw [if_neg c1] at hne⊢
  by_cases c2:0<cN (l.drop p)
  ·rw [if_pos c2] at hne;exact absurd rfl hne
  rw [if_neg c2] at hne⊢
  by_cases c3: ¬mG (l.drop p)=ak
  ·rw [if_pos c3];exact ⟨rfl,rfl,c3⟩
  ·rw [if_neg c3] at hne;exact absurd rfl hne
 obtain ⟨ho1,ho2,ho3⟩:=hop
 rw [←ho1] at ha
 rw [ho2] at hnext
 rcases QK (l.drop p) aF with h0 | ⟨i,hi1,hi2,hi3,hi4⟩
 ·exact absurd h0 ho3
 have hi3':begins (l.drop p) (mG (l.drop p))=true:=hi3
 have hmem:mG (l.drop p)∈aF:=by
  have:aF.getD i ak∈aF:=by
   rw [List.getD,List.getElem?_eq_getElem hi1]
   exact List.getElem_mem _
  rw [hi2] at this
  exact this
 have hbd:nN (l.drop p):=fun j=>by rw [hdr];exact hb _
 have hlen:p+(mG (l.drop p)).size≤l.length:=by
  have:=((lQ _ _).1 hi3').1
  rw [List.length_drop] at this
  have h2:0<(mG (l.drop p)).size:=(Eb _ hmem).1
  omega
 have hby:=fun j hj=>RD hbd hi3' j hj
 rcases asg_ops _ hmem ha with e | ⟨e1,e2,e3⟩ | e | e
 ·
  have hs1:(mG (l.drop p)).size=1:=by rw [e];rfl
  have c0:=hby 0 (by omega)
  rw [e,hdr] at c0
  refine ⟨p,by omega,c0,Or.inl ⟨Or.inr hbe,?_⟩⟩
  by_cases hl:p+1=l.length
  ·exact Or.inl hl
  right
  intro h61
  have hpl:=eq_place ⟨i,hi1⟩ (hi2.trans e)
  have hno:=hi4 14 hpl
  rw [eq_eq] at hno
  have hyes:begins (l.drop p) ⟨#[61,61]⟩=true:=by
   rw [lQ]
   have hll:2≤(l.drop p).length:=by rw [List.length_drop];omega
   refine ⟨hll,?_⟩
   have d0:(l.drop p)[0]? =some 61:=by
    have hx:0<(l.drop p).length:=by omega
    have:(l.drop p).getD 0 0=61:=by rw [hdr];exact c0
    rw [List.getD_eq_getElem?_getD,List.getElem?_eq_getElem hx] at this
    rw [List.getElem?_eq_getElem hx]
    exact congrArg some this
   have d1:(l.drop p)[1]? =some 61:=by
    have hx:1<(l.drop p).length:=by omega
    have:(l.drop p).getD 1 0=61:=by rw [hdr];exact h61
    rw [List.getD_eq_getElem?_getD,List.getElem?_eq_getElem hx] at this
    rw [List.getElem?_eq_getElem hx]
    exact congrArg some this
   match hr:l.drop p,d0,d1 with
   | x::y::m,d0,d1=>
    simp only [List.getElem?_cons_zero,List.getElem?_cons_succ,Option.some.injEq] at d0 d1
    subst d0
    subst d1
    rfl
  rw [hyes] at hno
  cases hno
 ·
  have c0:=hby 0 (by omega)
  have c1:=hby 1 (by omega)
  rw [hdr] at c0 c1
  rw [e2] at c1
  rw [e1] at hnext hlen
  refine ⟨p+1,by omega,c1,Or.inl ⟨Or.inr ?_,?_⟩⟩
  ·rw [show p+1 - 1=p+0 by omega,c0]
   generalize (mG (l.drop p)).data.toList.getD 0 0=c at e3
   simp only [List.mem_cons,List.not_mem_nil,or_false] at e3
   rcases e3 with rfl | rfl | rfl | rfl | rfl | rfl | rfl | rfl<;>decide
  ·by_cases hl:p+1+1=l.length
   ·exact Or.inl hl
   ·exact Or.inr fun h=>hnext ⟨by omega,h⟩
 ·have c0:=hby 0 (by rw [e];decide)
  have c1:=hby 1 (by rw [e];decide)
  have c2:=hby 2 (by rw [e];decide)
  rw [e,hdr] at c0 c1 c2
  have hs1:(mG (l.drop p)).size=3:=by rw [e];rfl
  refine ⟨p+2,by omega,c2,Or.inr ⟨by omega,?_,Or.inl ?_⟩⟩
  ·rw [show p+2 - 1=p+1 by omega,show p+2 - 2=p+0 by omega,c0,c1];rfl
  ·rw [show p+2 - 1=p+1 by omega,c1];rfl
 ·have c0:=hby 0 (by rw [e];decide)
  have c1:=hby 1 (by rw [e];decide)
  have c2:=hby 2 (by rw [e];decide)
  rw [e,hdr] at c0 c1 c2
  have hs1:(mG (l.drop p)).size=3:=by rw [e];rfl
  refine ⟨p+2,by omega,c2,Or.inr ⟨by omega,?_,Or.inr ?_⟩⟩
  ·rw [show p+2 - 1=p+1 by omega,show p+2 - 2=p+0 by omega,c0,c1];rfl
  ·rw [show p+2 - 1=p+1 by omega,c1];rfl
theorem rd_eq {l:List Int} {q:Nat} (hb:nN l) (hq:q<l.length) (h61:l.getD q 0=61): ∀n md,(md= .expr∨md= .cond∨(∃k,md= .bin k)∨md= .iR)→ ∀e t',rd l n md (tok l q)≠some (.ok e t'):=by
 have hdr: ∀(a j:Nat),(l.drop a).getD j 0=l.getD (a+j) 0:=fun a j=>by
  rw [List.getD_eq_getElem?_getD,List.getElem?_drop, ←List.getD_eq_getElem?_getD]
 have hx: ∀x m,l.drop q=x::m→x=61:=fun x m e=>by
  have:=hdr q 0
  rw [e,Nat.add_zero,h61] at this
  simpa using this
 have hsk:ay l q=q:=by
  unfold ay
  have:pre bM (l.drop q)=0:=by
   cases hc:l.drop q with
   | nil=>rfl
   | cons x m=>rw [hx x m hc];simp [pre,bM]
  omega
 have ht:tok l q=gY (l.drop q) q:=by unfold tok;rw [hsk]
 have hn0:fC (l.drop q)=0:=BU fun x m e=>by rw [hx x m e];rfl
 have hc0:cN (l.drop q)=0:=vF fun x m e=>by rw [hx x m e];rfl
 have hl0: ¬(l.drop q).length=0:=by rw [List.length_drop];omega
 have hbd:nN (l.drop q):=fun j=>by rw [hdr];exact hb _
 have hT: ¬(tok l q).kind=2∧ ¬(tok l q).kind=3∧jo (tok l q).text=ak∧ ¬(tok l q).text=jy:=by
  rw [ht]
  unfold gY
  rw [if_neg hl0,if_neg (by omega),if_neg (by omega)]
  by_cases c3: ¬mG (l.drop q)=ak
  ·rw [if_pos c3]
   rcases QK (l.drop q) aF with h0 | ⟨i,hi1,hi2,hi3,hi4⟩
   ·exact absurd h0 c3
   have hmem:mG (l.drop q)∈aF:=by
    have:aF.getD i ak∈aF:=by
     rw [List.getD,List.getElem?_eq_getElem hi1]
     exact List.getElem_mem _
    rw [hi2] at this
    exact this
   have h0:=RD hbd (show begins (l.drop q) (mG (l.drop q))=true from hi3) 0 (Eb _ hmem).1
   rw [hdr,Nat.add_zero,h61] at h0
   have h1:(mG (l.drop q)).data.toList.getD 0 0=61:=by
    apply UInt8.toNat_inj.1
    have:(61:UInt8).toNat=61:=rfl
    omega
   show¬(4:Int)=2∧ ¬(4:Int)=3∧jo (mG (l.drop q))=ak∧ ¬mG (l.drop q)=jy
   rcases ops_eq _ hmem h1 with e | e<;>rw [e]<;>decide
  ·rw [if_neg c3]
   show¬(1:Int)=2∧ ¬(1:Int)=3∧jo ak=ak∧ ¬ak=jy
   decide
 obtain ⟨k2,k3,ku,ko⟩:=hT
 intro n
 induction n with
 | zero=>intro md _ e t' h;cases md<;>simp [rd] at h
 | succ n ih=>
  rintro md (rfl | rfl | ⟨k,rfl⟩ | rfl) e t' h
  ·simp only [rd] at h
   rw [if_neg (fun c=>k3 c.1)] at h
   exact ih .cond (Or.inr (Or.inl rfl)) e t' h
  ·simp only [rd] at h
   cases hx:rd l n (.bin 1) (tok l q) with
   | none=>rw [hx] at h;cases h
   | some r=>
    cases r with
    | ok a t1=>exact ih (.bin 1) (Or.inr (Or.inr (Or.inl ⟨1,rfl⟩))) a t1 hx
    | bad c p=>rw [hx] at h;cases h
  ·simp only [rd] at h
   cases hx:rd l n .iR (tok l q) with
   | none=>rw [hx] at h;cases h
   | some r=>
    cases r with
    | ok a t1=>exact ih .iR (Or.inr (Or.inr (Or.inr rfl))) a t1 hx
    | bad c p=>rw [hx] at h;cases h
  ·simp only [rd] at h
   rw [if_neg k2,if_neg k3,if_neg (fun c=>c ku),if_neg ko] at h
   simp [refuse] at h
def Md.DW:Md→Prop
 | .loop _ a=>a.DW
 | _=>True
theorem wF {l:List Int} (hb:nN l) (hno: ∀i,i<l.length→ ¬Zd l i): ∀(n:Nat) (md:Md) (q:Nat),q≤l.length→md.DW→ ∀e t',rd l n md (tok l q)=some (.ok e t')→e.DW∧ ∃q',q'≤l.length∧t'=tok l q'
 | 0,md,q,_,_,e,t',h=>by cases md<;>simp [rd] at h
 | n +1,.expr,q,hq,_,e,t',h=>by
  have hst:=(iI l q hq).2
  have hst2:=(iI l _ hst).2
  simp only [rd] at h
  by_cases c:(tok l q).kind=3∧fZ (tok l (tok l q).stop).text=true
  ·exfalso
   rw [if_pos c] at h
   cases hx:rd l n .expr (tok l (tok l (tok l q).stop).stop) with
   | none=>rw [hx] at h;cases h
   | some r=>
    cases r with
    | bad c p=>rw [hx] at h;cases h
    | ok a t1=>
     obtain ⟨i,hi,hs⟩:=asg_sets hb c.1 c.2 (fun hh=>rd_eq hb hh.1 hh.2 n .expr (Or.inl rfl) a t1 hx)
     exact hno i hi hs
  ·rw [if_neg c] at h
   exact wF hb hno n .cond q hq trivial e t' h
 | n + 1, .cond,q,hq,_,e,t',h=>by
  simp only [rd] at h
  cases hx:rd l n (.bin 1) (tok l q) with
  | none=>rw [hx] at h;cases h
  | some r=>
   cases r with
   | bad c p=>rw [hx] at h;cases h
   | ok a t1=>
    obtain ⟨ha,q1,hq1,rfl⟩:=wF hb hno n (.bin 1) q hq trivial a t1 hx
    rw [hx] at h
    simp only [] at h
    by_cases c:(tok l q1).text=iE
    ·rw [if_pos c] at h
     have hs1:=(iI l q1 hq1).2
     cases hy:rd l n .expr (tok l (tok l q1).stop) with
     | none=>rw [hy] at h;cases h
     | some r=>
      cases r with
      | bad c p=>rw [hy] at h;cases h
      | ok y t2=>
       obtain ⟨hya,q2,hq2,rfl⟩:=wF hb hno n .expr _ hs1 trivial y t2 hy
       rw [hy] at h
       simp only [] at h
       by_cases d:(tok l q2).text=o8
       ·rw [if_pos d] at h
        have hs2:=(iI l q2 hq2).2
        cases hz:rd l n .cond (tok l (tok l q2).stop) with
        | none=>rw [hz] at h;cases h
        | some r=>
         cases r with
         | bad c p=>rw [hz] at h;cases h
         | ok z t3=>
          obtain ⟨hza,q3,hq3,rfl⟩:=wF hb hno n .cond _ hs2 trivial z t3 hz
          rw [hz] at h
          simp only [Option.some.injEq,Rs.ok.injEq] at h
          obtain ⟨rfl,rfl⟩:=h
          exact ⟨⟨ha,hya,hza⟩,q3,hq3,rfl⟩
       ·rw [if_neg d] at h
        simp [refuse] at h
    ·rw [if_neg c] at h
     simp only [Option.some.injEq,Rs.ok.injEq] at h
     obtain ⟨rfl,rfl⟩:=h
     exact ⟨ha,q1,hq1,rfl⟩
 | n+1,.bin least,q,hq,_,e,t',h=>by
  simp only [rd] at h
  cases hx:rd l n .iR (tok l q) with
  | none=>rw [hx] at h;cases h
  | some r=>
   cases r with
   | bad c p=>rw [hx] at h;cases h
   | ok a t1=>
    obtain ⟨ha,q1,hq1,rfl⟩:=wF hb hno n .iR q hq trivial a t1 hx
    rw [hx] at h
    exact wF hb hno n (.loop least a) q1 hq1 ha e t' h
 | n +1,.loop least left,q,hq,hl,e,t',h=>by
  simp only [rd] at h
  by_cases c:least≤dO (tok l q).text
  ·rw [if_pos c] at h
   have hs1:=(iI l q hq).2
   cases hx:rd l n (.bin (dO (tok l q).text+1)) (tok l (tok l q).stop) with
   | none=>rw [hx] at h;cases h
   | some r=>
    cases r with
    | bad c p=>rw [hx] at h;cases h
    | ok b t2=>
     obtain ⟨hba,q2,hq2,rfl⟩:=wF hb hno n (.bin (dO (tok l q).text+1)) _ hs1 trivial b t2 hx
     rw [hx] at h
     exact wF hb hno n (.loop least (.bin (tok l q).text (tok l q).start left b)) q2 hq2 ⟨hl,hba⟩ e t' h
  ·rw [if_neg c] at h
   simp only [Option.some.injEq,Rs.ok.injEq] at h
   obtain ⟨rfl,rfl⟩:=h
   exact ⟨hl,q,hq,rfl⟩
 | n +1,.iR,q,hq,_,e,t',h=>by
  have hs1:=(iI l q hq).2
  simp only [rd] at h
  by_cases c2:(tok l q).kind=2
  ·rw [if_pos c2] at h
   by_cases d:(tok l q).over=true
   ·rw [if_pos d] at h;simp [refuse] at h
   rw [if_neg d] at h
   by_cases d2:gG l (tok l q).stop=true
   ·rw [if_pos d2] at h;cases h
   rw [if_neg d2] at h
   simp only [Option.some.injEq,Rs.ok.injEq] at h
   obtain ⟨rfl,rfl⟩:=h
   exact ⟨trivial,_,hs1,rfl⟩
  rw [if_neg c2] at h
  by_cases c3:(tok l q).kind=3
  ·rw [if_pos c3] at h
   simp only [Option.some.injEq,Rs.ok.injEq] at h
   obtain ⟨rfl,rfl⟩:=h
   exact ⟨trivial,_,hs1,rfl⟩
  rw [if_neg c3] at h
  by_cases cu: ¬jo (tok l q).text=ak
  ·rw [if_pos cu] at h
   cases hx:rd l n .iR (tok l (tok l q).stop) with
   | none=>rw [hx] at h;cases h
   | some r=>
    cases r with
    | bad c p=>rw [hx] at h;cases h
    | ok a t1=>
     obtain ⟨ha,q1,hq1,rfl⟩:=wF hb hno n .iR _ hs1 trivial a t1 hx
     rw [hx] at h
     simp only [Option.some.injEq,Rs.ok.injEq] at h
     obtain ⟨rfl,rfl⟩:=h
     exact ⟨ha,q1,hq1,rfl⟩
  rw [if_neg cu] at h
  by_cases co:(tok l q).text=jy
  ·rw [if_pos co] at h
   cases hx:rd l n .expr (tok l (tok l q).stop) with
   | none=>rw [hx] at h;cases h
   | some r=>
    cases r with
    | bad c p=>rw [hx] at h;cases h
    | ok a t1=>
     obtain ⟨ha,q1,hq1,rfl⟩:=wF hb hno n .expr _ hs1 trivial a t1 hx
     rw [hx] at h
     simp only [] at h
     by_cases cs:(tok l q1).text=jw
     ·rw [if_pos cs] at h
      simp only [Option.some.injEq,Rs.ok.injEq] at h
      obtain ⟨rfl,rfl⟩:=h
      exact ⟨ha,_,(iI l q1 hq1).2,rfl⟩
     ·rw [if_neg cs] at h
      simp [refuse] at h
  ·rw [if_neg co] at h
   simp [refuse] at h
theorem ZK {l:List Int} (hb:nN l) (hno: ∀i,i<l.length→ ¬Zd l i) {n:Nat} {e:Tr} {t:Tk} (h:cZ l n=some (.ok e t)):e.DW:=by
 unfold cZ at h
 by_cases hl:1024<l.length
 ·rw [if_pos hl] at h;simp at h
 rw [if_neg hl] at h
 unfold mF at h
 cases hx:rd l n .expr (tok l 0) with
 | none=>rw [hx] at h;cases h
 | some r=>
  cases r with
  | bad c p=>rw [hx] at h;cases h
  | ok a t1=>
   rw [hx] at h
   simp only [] at h
   by_cases ck:t1.kind=0
   ·rw [if_pos ck] at h
    simp only [Option.some.injEq,Rs.ok.injEq] at h
    obtain ⟨rfl,rfl⟩:=h
    exact (wF hb hno n .expr 0 (Nat.zero_le _) trivial a t1 hx).1
   ·rw [if_neg ck] at h
    simp [refuse] at h
def Rv.er:Rv→Rv
 | .ok v e=> .ok v e
 | .bad c _=> .bad c 0
 | .no=> .no
theorem then_er (r:Rv) (f:Int→Asc→Rv):(r.then f).er=r.er.then fun v e=>(f v e).er:=by cases r<;>rfl
theorem AZ {r r':Rv} (h:r.er=r'.er) {f g:Int→Asc→Rv} (hf: ∀v e,(f v e).er=(g v e).er):(r.then f).er=(r'.then g).er:=by
 rw [then_er,then_er,h]
 congr 1
 funext v e
 exact hf v e
theorem ldR_er (NV:ByteArray→Int × Nat) (s:ByteArray) (p q:Nat) (e:Asc):(jZ NV s p e).er=(jZ NV s q e).er:=by
 unfold jZ
 split
 ·rfl
 ·split<;>rfl
theorem twoR_er (op:ByteArray) (p q:Nat) (l r:Int) (e:Asc):(gq op p l r e).er=(gq op q l r e).er:=by
 unfold gq
 split<;>rfl
theorem Ov (NV:ByteArray→Int × Nat) (k:Nat): ∀(t:Tr) (e:Asc),(ev NV (t.sh k) e).er=(ev NV t e).er
 | .num n p,e=>rfl
 | .name s p,e=>ldR_er NV s _ _ e
 | .un op p a,e=>AZ (Ov NV k a e) (fun _ _=>rfl)
 | .bin op p a b,e=>by
  refine AZ (Ov NV k a e) (fun v e1=>?_)
  have ib:=Ov NV k b e1
  by_cases c1:op=fV
  ·simp only [if_pos c1]
   by_cases c:v=0
   ·simp only [if_pos c]
   ·simp only [if_neg c];exact AZ ib (fun _ _=>rfl)
  ·simp only [if_neg c1]
   by_cases c2:op=jR
   ·simp only [if_pos c2]
    by_cases c:v=0
    ·simp only [if_pos c];exact AZ ib (fun _ _=>rfl)
    ·simp only [if_neg c]
   ·simp only [if_neg c2];exact AZ ib (fun u e2=>twoR_er op _ _ v u e2)
 | .cond op p a b c,e=>by
  refine AZ (Ov NV k a e) (fun v e1=>?_)
  by_cases c0:v=0
  ·simp only [if_pos c0];exact Ov NV k c e1
  ·simp only [if_neg c0];exact Ov NV k b e1
 | .eF op s p q a,e=>by
  by_cases h1:bF op=ak
  ·have he: ∀(a:Tr) (p q:Nat),ev NV (.eF op s p q a) e=(ev NV a e).then fun v e1=> .ok v ((s,v)::e1):=fun a p q=>by simp only [ev];rw [if_pos h1]
   show (ev NV (.eF op s (k+p) (k+q) (a.sh k)) e).er=_
   rw [he,he]
   exact AZ (Ov NV k a e) (fun _ _=>rfl)
  ·have he: ∀(a:Tr) (p q:Nat),ev NV (.eF op s p q a) e=(jZ NV s p e).then fun v e1=>(ev NV a e1).then fun u e2=>(gq (bF op) q v u e2).then fun x e3=> .ok x ((s,x)::e3):=fun a p q=>by simp only [ev];rw [if_neg h1]
   show (ev NV (.eF op s (k+p) (k+q) (a.sh k)) e).er=_
   rw [he,he]
   exact AZ (ldR_er NV s _ _ e) (fun v e1=>AZ (Ov NV k a e1) (fun u e2=>AZ (twoR_er _ _ _ v u e2) (fun _ _=>rfl)))
def lN:List ByteArray:=bG.flatten
theorem Fz (s:ByteArray): ∀(L:List (List ByteArray)) (k:Nat),1≤rowFrom s L k→s∈L.flatten
 | [],k,h=>by simp [rowFrom] at h
 | r::rs,k,h=>by
  simp only [rowFrom] at h
  by_cases c:r.any (fun x=>decide (x=s))=true
  ·obtain ⟨x,hx,he⟩:=List.any_eq_true.1 c
   have:=of_decide_eq_true he
   subst this
   simp [hx]
  ·rw [if_neg c] at h
   have:=Fz s rs (k+1) h
   simp only [List.flatten_cons,List.mem_append]
   exact Or.inr this
theorem FB {s:ByteArray} (h:1≤dO s):s∈lN:=Fz s bG 0 h
theorem xQ {op:ByteArray} (h:op∈lN) (h1: ¬op=fV) (h2: ¬op=jR) (p:Nat) (l r:Int) (e:Asc):gq op p l r e≠ .no:=by
 unfold gq
 by_cases c:r=0∧(op=Jv∨op=Ju)
 ·rw [if_pos c];simp
 rw [if_neg c]
 have key: ∃x,kK op l r=some x:=by
  simp only [lN,bG,List.flatten_cons,List.flatten_nil,List.append_nil,List.cons_append,List.nil_append,List.mem_cons,List.not_mem_nil,or_false] at h
  rcases h with rfl | rfl | rfl | rfl | rfl | rfl | rfl | rfl | rfl | rfl | rfl | rfl | rfl | rfl | rfl | rfl | rfl | rfl
  ·exact absurd rfl h2
  ·exact absurd rfl h1
  all_goals first
   | exact ⟨_,rfl⟩
   | (have hr: ¬r=0:=fun e=>c ⟨e,by first | exact Or.inl rfl | exact Or.inr rfl⟩
      refine Option.isSome_iff_exists.1 ?_
      unfold kK
      simp only [if_neg hr]
      rfl)
 obtain ⟨x,hx⟩:=key
 rw [hx]
 simp
theorem Gw {op:ByteArray} (h:op∈WU) (v:Int) (e:Asc):ig op v e≠ .no:=by
 unfold ig
 have key: ∃x,kK op 0 v=some x:=by
  simp only [WU,List.mem_cons,List.not_mem_nil,or_false] at h
  rcases h with rfl | rfl | rfl | rfl<;>exact ⟨_,rfl⟩
 obtain ⟨x,hx⟩:=key
 rw [hx]
 simp
theorem sS (v:Int) (e:Asc):ig eX v e≠ .no:=by
 unfold ig
 have key: ∃x,kK eX 0 v=some x:=⟨_,rfl⟩
 obtain ⟨x,hx⟩:=key
 rw [hx]
 simp
theorem eU {r:Rv} {f:Int→Asc→Rv} (h:r≠ .no) (hf: ∀v e,f v e≠ .no):r.then f≠ .no:=by
 cases r with
 | ok v e=>exact hf v e
 | bad c p=>simp [Rv.then]
 | no=>exact absurd rfl h
theorem Jb (NV:ByteArray→Int × Nat): ∀(t:Tr) (e:Asc),t.DW→t.Ops→ev NV t e≠ .no
 | .num n p,e,_,_=>by simp [ev]
 | .name s p,e,_,_=>by
  show jZ NV s p e≠ .no
  unfold jZ
  split
  ·simp
  ·split<;>simp
 | .un op p a,e,hn,ho=>eU (Jb NV a e hn ho.2) (fun v e1=>Gw ho.1 v e1)
 | .bin op p a b,e,hn,ho=>by
  refine eU (Jb NV a e hn.1 ho.2.1) (fun v e1=>?_)
  have ib:=Jb NV b e1 hn.2 ho.2.2
  by_cases c1:op=fV
  ·simp only [if_pos c1]
   by_cases c:v=0
   ·simp [if_pos c]
   ·simp only [if_neg c];exact eU ib (fun u e2=>sS u e2)
  ·simp only [if_neg c1]
   by_cases c2:op=jR
   ·simp only [if_pos c2]
    by_cases c:v=0
    ·simp only [if_pos c];exact eU ib (fun u e2=>sS u e2)
    ·simp [if_neg c]
   ·simp only [if_neg c2];exact eU ib (fun u e2=>xQ (FB ho.1) c1 c2 _ v u e2)
 | .cond op p a b c,e,hn,ho=>by
  refine eU (Jb NV a e hn.1 ho.2.1) (fun v e1=>?_)
  by_cases c0:v=0
  ·simp only [if_pos c0];exact Jb NV c e1 hn.2.2 ho.2.2.2
  ·simp only [if_neg c0];exact Jb NV b e1 hn.2.1 ho.2.2.1
 | .eF _ _ _ _ _,_,hn,_=>hn.elim
theorem ev_either (NV:ByteArray→Int × Nat) (t:Tr) (hn:t.DW) (ho:t.Ops):(∃v,∀k,Wo NV (t.sh k) v)∨ ∀k,∃c p,ev NV (t.sh k) []= .bad c p:=by
 have h0:=Jb NV t [] hn ho
 cases hr:ev NV t [] with
 | ok v e=>
  have:=FY NV t [] e v hn hr
  subst this
  exact Or.inl ⟨v,fun k=>Wo.sh hr k⟩
 | bad c p=>
  refine Or.inr fun k=>?_
  have h1:=Ov NV k t []
  rw [hr] at h1
  cases h2:ev NV (t.sh k) [] with
  | ok v e=>rw [h2] at h1;cases h1
  | bad c' p'=>exact ⟨_,_,rfl⟩
  | no=>rw [h2] at h1;cases h1
 | no=>exact absurd hr h0
end Go.Proofs.YtacfglopionkfaaGreatDoor
