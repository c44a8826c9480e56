import Derived.WalkKit
import Derived.Great.BuildSlice
namespace Go.Proofs.YtacfglopionkfaaGreatDoor.Reg
open Go
def One (P:Program) (ops:Array Oper) (Q:Exit→Act→World→Prop) (o:Oper) (T:Array Value) (ds:List Deferred) (w:World) (K:Act→World→Prop):Prop:=
 if Region.wanted o (yielded ops T)=true then Oper.wp P o ⟨T,ds⟩ w K Q else K (Act.put ⟨T,ds⟩ o.dst undef) w
def upd {α:Type} (f:Nat→α) (i:Nat) (v:α):Nat→α:=fun j=>if j=i then v else f j
@[simp] theorem upd_same {α:Type} (f:Nat→α) (i:Nat) (v:α):upd f i v i=v:=by simp [upd]
theorem upd_ne {α:Type} (f:Nat→α) {i j:Nat} (v:α) (h:j≠i):upd f i v j=f j:=by simp [upd,h]
def aK (ops:List Oper) (k:Nat) (u:Nat→Value) (a:Act):Act:=
 match ops with
 | []=>a
 | o::rest=>aK rest (k+1) u (a.put o.dst (u k))
structure Fr (ops:Array Oper) (T0:Array Value) (L:Nat→Bool) (u:Nat→Value) (T:Array Value):Prop where
 size:T.size=T0.size
 out: ∀k,(∀(j:Nat) (o:Oper),ops[j]? =some o→o.dst≠some k)→T[k]? =T0[k]?
 val: ∀(j:Nat) (o:Oper) (k:Nat),ops[j]? =some o→o.dst=some k→L j=true→T[k]? =some (u j)
def Each (P:Program) (ops:Array Oper) (Q:Exit→Act→World→Prop) (ds:List Deferred) (T0:Array Value) (Φ:(Nat→Bool)→(Nat→Value)→World→Prop):List Oper→Nat→Prop
 | [],_=>True
 | o::rest,i=>(∀L u T w,L i=false→(o.after.all fun e=> !Region.binds .any e || L e.on)=true→Fr ops T0 L u T→Φ L u w→
   ∀K:Act→World→Prop,(∀v w',Φ (upd L i true) (upd u i v) w'→K (Act.put ⟨T,ds⟩ o.dst v) w')→One P ops Q o T ds w K)∧Each P ops Q ds T0 Φ rest (i+1)
theorem Each.at {P:Program} {ops:Array Oper} {Q:Exit→Act→World→Prop} {ds:List Deferred} {T0:Array Value} {Φ:(Nat→Bool)→(Nat→Value)→World→Prop}:
  ∀(l:List Oper) (k:Nat),Each P ops Q ds T0 Φ l k→ ∀(j:Nat) (o:Oper),l[j]? =some o→
   ∀L u T w,L (k+j)=false→(o.after.all fun e=> !Region.binds .any e || L e.on)=true→Fr ops T0 L u T→Φ L u w→
   ∀K:Act→World→Prop,(∀v w',Φ (upd L (k+j) true) (upd u (k+j) v) w'→K (Act.put ⟨T,ds⟩ o.dst v) w')→One P ops Q o T ds w K
 | [],_,_,_,_,h=>by simp at h
 | _::_,k,hE,0,o,h=>by
  simp only [List.getElem?_cons_zero,Option.some.injEq] at h;subst h;exact hE.1
 | _::rest,k,hE,j+1,o,h=>by
  have:=Each.at rest (k+1) hE.2 j o (by simpa using h)
  rw [show k+(j+1)=k+1+j by omega]
  exact this
def apartB:List Oper→Bool
 | []=>true
 | o::rest=>(match o.dst with | none=>true | some k=>rest.all fun o'=>o'.dst !=some k) && apartB rest
theorem apart_spec: ∀(l:List Oper),apartB l=true→ ∀(i j:Nat) (o o':Oper) (k:Nat),l[i]? =some o→l[j]? =some o'→o.dst=some k→o'.dst=some k→i=j
 | [],_,i,j,_,_,_,h,_,_,_=>by simp at h
 | o0::rest,hb,i,j,o,o',k,hi,hj,h1,h2=>by
  simp only [apartB,Bool.and_eq_true] at hb
  have key: ∀(j:Nat) (o':Oper),rest[j]? =some o'→o0.dst=some k→o'.dst=some k→False:=fun j o' hj h1 h2=>by
   have hb1:=hb.1
   rw [h1] at hb1
   have:=List.all_eq_true.1 hb1 o' (List.mem_of_getElem? hj)
   rw [h2] at this
   simp at this
  match i,j,hi,hj with
  | 0,0,_,_=>rfl
  | 0,j+1,hi,hj=>
   simp only [List.getElem?_cons_zero,Option.some.injEq] at hi;subst hi
   exact (key j o' (by simpa using hj) h1 h2).elim
  | i+1,0,hi,hj=>
   simp only [List.getElem?_cons_zero,Option.some.injEq] at hj;subst hj
   exact (key i o (by simpa using hi) h2 h1).elim
  | i+1,j+1,hi,hj=>
   have:=apart_spec rest hb.2 i j o o' k (by simpa using hi) (by simpa using hj) h1 h2
   omega
theorem Fr.put {l:List Oper} {T0 T:Array Value} {L:Nat→Bool} {u:Nat→Value} (hap:apartB l=true) (h:Fr l.toArray T0 L u T)
  {i:Nat} {o:Oper} (hi:l[i]? =some o) (hd: ∀k,o.dst=some k→k<T0.size) (ds:List Deferred) (v:Value):
  Fr l.toArray T0 (upd L i true) (upd u i v) (Act.put ⟨T,ds⟩ o.dst v).tmps:=by
 have hi':l.toArray[i]? =some o:=by simpa using hi
 cases hdst:o.dst with
 | none=>
  refine ⟨h.size,h.out,fun j o' k hj hk hL=>?_⟩
  by_cases hji:j=i
  ·subst hji
   rw [hj] at hi';simp only [Option.some.injEq] at hi';subst hi'
   rw [hdst] at hk;cases hk
  ·rw [upd_ne _ _ hji] at hL
   rw [upd_ne _ _ hji]
   exact h.val j o' k hj hk hL
 | some d=>
  refine ⟨by simp [Act.put,h.size],fun k hk=>?_,fun j o' k hj hk hL=>?_⟩
  ·have hne:d≠k:=fun e=>hk i o hi' (by rw [hdst,e])
   simp only [Act.put,Array.getElem?_setIfInBounds,if_neg hne]
   exact h.out k hk
  ·by_cases hji:j=i
   ·subst hji
    rw [hj] at hi';simp only [Option.some.injEq] at hi';subst hi'
    rw [hdst] at hk;simp only [Option.some.injEq] at hk;subst hk
    have hlt:d<T.size:=by rw [h.size];exact hd d hdst
    simp [Act.put,hlt]
   ·have hne:d≠k:=fun e=>hji (apart_spec l hap j i o' o k (by simpa using hj) hi hk (by rw [hdst,e]))
    simp only [Act.put,Array.getElem?_setIfInBounds,if_neg hne]
    rw [upd_ne _ _ hji] at hL
    rw [upd_ne _ _ hji]
    exact h.val j o' k hj hk hL
theorem iQ: ∀(l:List Oper) (k:Nat) (u:Nat→Value) (a:Act),(aK l k u a).defers=a.defers
 | [],_,_,_=>rfl
 | o::rest,k,u,a=>by
  simp only [aK]
  rw [iQ rest]
  unfold Act.put
  cases o.dst<;>rfl
theorem iZ: ∀(l:List Oper) (k:Nat) (u:Nat→Value) (a:Act) (d:Nat),(∀o∈l,o.dst≠some d)→(aK l k u a).tmps[d]? =a.tmps[d]?
 | [],_,_,_,_,_=>rfl
 | o::rest,k,u,a,d,h=>by
  simp only [aK]
  rw [iZ rest _ _ _ _ (fun o' ho'=>h o' (List.mem_cons_of_mem _ ho'))]
  unfold Act.put
  cases hd:o.dst with
  | none=>rfl
  | some d'=>
   have:d'≠d:=fun e=>h o (List.mem_cons_self) (by rw [hd,e])
   simp [this]
theorem kV: ∀(l:List Oper) (k:Nat) (u:Nat→Value) (a:Act),apartB l=true→ ∀(j:Nat) (o:Oper) (d:Nat),l[j]? =some o→o.dst=some d→d<a.tmps.size→
  (aK l k u a).tmps[d]? =some (u (k+j))
 | [],_,_,_,_,_,_,_,h,_,_=>by simp at h
 | o0::rest,k,u,a,hap,0,o,d,h,hd,hs=>by
  simp only [List.getElem?_cons_zero,Option.some.injEq] at h;subst h
  simp only [aK]
  simp only [apartB,Bool.and_eq_true] at hap
  rw [iZ]
  ·simp [Act.put,hd,hs]
  ·intro o' ho' he
   have h1:=hap.1
   rw [hd] at h1
   have:=List.all_eq_true.1 h1 o' ho'
   rw [he] at this
   simp at this
 | o0::rest,k,u,a,hap,j+1,o,d,h,hd,hs=>by
  simp only [aK]
  simp only [apartB,Bool.and_eq_true] at hap
  rw [kV rest (k+1) u _ hap.2 j o d (by simpa using h) hd (by unfold Act.put;cases o0.dst<;>simpa using hs)]
  congr 2;omega
theorem vW {l:List Oper} {a:Act} {L:Nat→Bool} {u:Nat→Value} {T:Array Value} (hap:apartB l=true) (hd: ∀o∈l,∀k,o.dst=some k→k<a.tmps.size)
  (h:Fr l.toArray a.tmps L u T) (hL: ∀j,j<l.length→L j=true):aK l 0 u a=⟨T,a.defers⟩:=by
 have h1:(aK l 0 u a).tmps=T:=by
  apply Array.ext_getElem?
  intro k
  by_cases hk: ∃(j:Nat) (o:Oper),l[j]? =some o∧o.dst=some k
  ·obtain ⟨j,o,hj,hk⟩:=hk
   have hlt:j<l.length:=(List.getElem?_eq_some_iff.1 hj).1
   rw [kV l 0 u a hap j o k hj hk (hd o (List.mem_of_getElem? hj) k hk),h.val j o k (by simpa using hj) hk (hL j hlt),Nat.zero_add]
  ·rw [iZ,h.out]
   ·intro j o hj he;exact hk ⟨j,o,by simpa using hj,he⟩
   ·intro o ho he
    obtain ⟨j,hj⟩:=List.getElem?_of_mem ho
    exact hk ⟨j,o,hj,he⟩
 have h2:=iQ l 0 u a
 cases hp:aK l 0 u a with
 | mk t d=>rw [hp] at h1 h2;simp only at h1 h2;rw [h1,h2]
section
variable {P:Program} {Q:Exit→Act→World→Prop}
def left (listed:Array Bool):Nat:=listed.toList.countP (fun b=> !b)
theorem kT: ∀(l:List Bool) (i:Nat),l[i]? =some false→(l.set i true).countP (fun b=> !b)+1=l.countP (fun b=> !b)
 | [],_,h=>by simp at h
 | b::l,0,h=>by
  simp only [List.getElem?_cons_zero,Option.some.injEq] at h;subst h
  simp
 | b::l,i+1,h=>by
  have:=kT l i (by simpa using h)
  simp only [List.set_cons_succ,List.countP_cons]
  omega
theorem jm {id:Nat} {l:List Oper} {a:Act} {w:World} (Φ:(Nat→Bool)→(Nat→Value)→World→Prop)
  (hm:P.follows .mixedOrders=true) (hap:apartB l=true)
  (hd:(l.all fun o=>match o.dst with | none=>true | some k=>k<a.tmps.size)=true)
  (kR:(l.zipIdx.all fun oi=>oi.1.after.all fun e=> !Region.binds .any e || e.on<oi.2)=true)
  (h0:Φ (fun _=>false) (fun _=>undef) {w with drawn:=w.drawn+1})
  (hE:Each P l.toArray Q a.defers a.tmps Φ l 0)
  (hend: ∀L u w',(∀j,j<l.length→L j=true)→Φ L u w'→Q .normal (aK l 0 u a) w'):(Code.region id l.toArray true).wp P Q a w:=by
 refine wp_region_any hm ?_
 have hd': ∀o∈l,∀k,o.dst=some k→k<a.tmps.size:=fun o ho k hk=>by
  have:=List.all_eq_true.1 hd o ho
  rw [hk] at this
  simpa using this
 have key : ∀(fuel:Nat) (listed:Array Bool) (L:Nat→Bool) (u:Nat→Value) (T:Array Value) (w:World),
   left listed≤fuel→listed.size=l.length→(∀j,j<l.length→L j=listed.getD j true)→Fr l.toArray a.tmps L u T→Φ L u w→wpAny P .any l.toArray Q fuel listed ⟨T,a.defers⟩ w:=by
  intro fuel
  induction fuel with
  | zero=>
   intro listed L u T w hf hs hL hF o9
   have hall: ∀j,j<l.length→L j=true:=by
    intro j hj
    rw [hL j hj]
    cases hb:listed.getD j true with
    | true=>rfl
    | false=>
     have hlt:j<listed.size:=by omega
     have hb':listed[j]? =some false:=by
      rw [Array.getElem?_eq_getElem hlt]
      simpa [Array.getD,hlt] using hb
     have:=kT listed.toList j (by simpa using hb')
     unfold left at hf
     omega
   refine ⟨?_,by rw [←vW hap hd' hF hall];exact hend L u w hall o9⟩
   unfold Region.ready
   rw [List.filter_eq_nil_iff]
   intro j hj
   simp only [List.mem_range,List.size_toArray] at hj
   rw [←hL j hj,hall j hj]
   simp
  | succ fuel ih=>
   intro listed L u T w hf hs hL hF o9
   refine ⟨fun hr=>?_,fun i hi=>?_⟩
   ·
    have hall: ∀j,j<l.length→L j=true:=by
     intro j
     induction j using Nat.strongRecOn with
     | ind j ihj=>
      intro hj
      rw [hL j hj]
      cases hb:listed.getD j true with
      | true=>rfl
      | false=>
       have hmem:j∈Region.ready .any l.toArray listed:=by
        refine mem_ready.2 ⟨hb,l[j],by simp [hj],fun e he hbd=>?_⟩
        have h1:=List.all_eq_true.1 kR (l[j],j) (by
         rw [List.mem_iff_getElem?]
         exact ⟨j,by simp [hj]⟩)
        simp only [Array.all_eq_true_iff_forall_mem] at h1
        have h2:=h1 e he
        rw [hbd] at h2
        simp at h2
        have h3:=ihj e.on h2 (by omega)
        rw [hL _ (by omega)] at h3
        have hlt:e.on<listed.size:=by omega
        simpa [Array.getD,hlt] using h3
       rw [hr] at hmem
       cases hmem
    rw [←vW hap hd' hF hall]
    exact hend L u w hall o9
   ·obtain ⟨hun,o,ho,Tt⟩:=mem_ready.1 hi
    have ho':l[i]? =some o:=by simpa using ho
    have hlt:i<l.length:=(List.getElem?_eq_some_iff.1 ho').1
    have hLi:L i=false:=by rw [hL i hlt];exact hun
    have JV :(o.after.all fun e=> !Region.binds .any e || L e.on)=true:=by
     rw [Array.all_eq_true_iff_forall_mem]
     intro e he
     cases hb:Region.binds .any e with
     | false=>simp
     | true =>
      have h1:=List.all_eq_true.1 kR (o,i) (by
            rw [List.mem_iff_getElem?]
            exact ⟨i,by
             rw [List.getElem?_eq_some_iff] at ho'
             obtain ⟨h,rfl⟩:=ho'
             simp⟩)
      simp only [Array.all_eq_true_iff_forall_mem] at h1
      have h2:=h1 e he
      rw [hb] at h2
      simp at h2
      have h3:=Tt e he hb
      have hlt':e.on<listed.size:=by omega
      rw [hL e.on (by omega)]
      simpa [Array.getD,hlt'] using h3
    have hone:=Each.at l 0 hE i o ho' L u T w (by simpa using hLi) JV hF o9
    rw [Nat.zero_add] at hone
    refine wpOp_step ho fun K' hK'=>?_
    refine hone K' fun v w' S9=>hK' _ _ ?_
    have hF':=Fr.put (T:=T) hap hF ho' (fun k hk=>hd' o (List.mem_of_getElem? ho') k hk) a.defers v
    have hput:Act.put ⟨T,a.defers⟩ o.dst v=⟨(Act.put ⟨T,a.defers⟩ o.dst v).tmps,a.defers⟩:=by
     unfold Act.put
     cases o.dst<;>rfl
    rw [hput]
    refine ih (listed.setIfInBounds i true) (upd L i true) (upd u i v) _ w' ?_ (by simpa using hs) ?_ hF' S9
    ·have hb':listed[i]? =some false:=by
      have hlt':i<listed.size:=by omega
      rw [Array.getElem?_eq_getElem hlt']
      simpa [Array.getD,hlt'] using hun
     have:=kT listed.toList i (by simpa using hb')
     unfold left at*
     simp only [Array.toList_setIfInBounds]
     omega
    ·intro j hj
     by_cases hji:j=i
     ·subst hji
      have hlt':j<listed.size:=by omega
      simp [Array.getD,hlt']
     ·rw [upd_ne _ _ hji,hL j hj,getD_set_ne true (Ne.symm hji)]
 have hstart:=key l.length (Array.replicate l.length false) (fun _=>false) (fun _=>undef) a.tmps {w with drawn:=w.drawn+1}
  (by unfold left;simp [List.countP_replicate]) (by simp) (fun j hj=>by simp [Array.getD,hj]) ⟨rfl,fun _ _=>rfl,fun _ _ _ _ _ h=>by cases h⟩ h0
 simpa using hstart
end
def dK (o:Oper):List Nat:=(o.after.toList.filter fun e=>Region.binds .any e).map (·.on)
def Is (V:Nat→Option Value) (R:Nat→Value→World→Prop) (k:Nat) (x:Value) (w:World):Prop:=
 match V k with
 | some v=>x=v
 | none=>R k x w
theorem Is.val {V:Nat→Option Value} {R:Nat→Value→World→Prop} {k:Nat} {x v:Value} {w:World} (h:Is V R k x w) (hv:V k=some v):x=v:=by
 unfold Is at h;rw [hv] at h;exact h
theorem Is.prop {V:Nat→Option Value} {R:Nat→Value→World→Prop} {k:Nat} {x:Value} {w:World} (h:Is V R k x w) (hv:V k=none):R k x w:=by
 unfold Is at h;rw [hv] at h;exact h
theorem Is.aj {V:Nat→Option Value} {R:Nat→Value→World→Prop} {k:Nat} {v:Value} {w:World} (hv:V k=some v):Is V R k v w:=by
 unfold Is;rw [hv]
theorem Is.XK {V:Nat→Option Value} {R:Nat→Value→World→Prop} {k:Nat} {x:Value} {w:World} (hv:V k=none) (h:R k x w):Is V R k x w:=by
 unfold Is;rw [hv];exact h
structure Kn (l:List Oper) (T0:Array Value) (V:Nat→Option Value) (R:Nat→Value→World→Prop) (o:Oper) (T:Array Value) (w:World):Prop where
 dep: ∀k d,(dK o).contains k=true→((l[k]?).bind (·.dst))=some d→ ∃x,T[d]? =some x∧Is V R k x w
 out: ∀k,(l.all fun o=>o.dst !=some k)=true→T[k]? =T0[k]?
theorem Kn.val {l:List Oper} {T0:Array Value} {V:Nat→Option Value} {R:Nat→Value→World→Prop} {o:Oper} {T:Array Value} {w:World} (h:Kn l T0 V R o T w) (k d:Nat) {v:Value}
  (h3:V k=some v) (h1:(dK o).contains k=true:=by kernel_rfl) (h2:((l[k]?).bind (·.dst))=some d:=by kernel_rfl):T[d]? =some v:=by
 obtain ⟨x,hx,hi⟩:=h.dep k d h1 h2
 rw [hx,hi.val h3]
theorem Kn.prop {l:List Oper} {T0:Array Value} {V:Nat→Option Value} {R:Nat→Value→World→Prop} {o:Oper} {T:Array Value} {w:World} (h:Kn l T0 V R o T w) (k d:Nat)
  (h1:(dK o).contains k=true) (h2:((l[k]?).bind (·.dst))=some d) (h3:V k=none): ∃x,T[d]? =some x∧R k x w:=by
 obtain ⟨x,hx,hi⟩:=h.dep k d h1 h2
 exact ⟨x,hx,hi.prop h3⟩
theorem Kn.old {l:List Oper} {T0:Array Value} {V:Nat→Option Value} {R:Nat→Value→World→Prop} {o:Oper} {T:Array Value} {w:World} (h:Kn l T0 V R o T w) (k:Nat) {v:Value}
  (h2:T0[k]? =some v) (h1:(l.all fun o=>o.dst !=some k)=true:=by kernel_rfl):T[k]? =some v:=(h.out k h1).trans h2
theorem lH {o:Oper} {y:Nat→Option Bool} (h:o.guard=none):Region.wanted o y=true:=by
 unfold Region.wanted;rw [h]
theorem zS {ops:Array Oper} {o:Oper} {T:Array Value} {j d:Nat} {b:Bool} (hg:o.guard=some (j,b)) (hd:((ops[j]?).bind (·.dst))=some d) (hT:T[d]? =some (.bool b)):
  Region.wanted o (yielded ops T)=true:=by
 unfold Region.wanted yielded
 rw [hg]
 simp only [hd,Option.bind_some,hT]
 simp
theorem wV {ops:Array Oper} {o:Oper} {T:Array Value} {j d:Nat} {b:Bool} (hg:o.guard=some (j,!b)) (hd:((ops[j]?).bind (·.dst))=some d) (hT:T[d]? =some (.bool b)):
  ¬Region.wanted o (yielded ops T)=true:=by
 unfold Region.wanted yielded
 rw [hg]
 simp only [hd,Option.bind_some,hT]
 cases b<;>simp
def ah (P:Program) (l:List Oper) (Q:Exit→Act→World→Prop) (ds:List Deferred) (T0:Array Value) (S:World→Prop) (V:Nat→Option Value) (R:Nat→Value→World→Prop):List Oper→Nat→Prop
 | [],_=>True
 | o::rest,i=>(∀T w,S w→Kn l T0 V R o T w→
   ∀K:Act→World→Prop,(∀v w',S w'→Is V R i v w'→(∀j x,V j=none→R j x w→R j x w')→K (Act.put ⟨T,ds⟩ o.dst v) w')→One P l.toArray Q o T ds w K)∧ah P l Q ds T0 S V R rest (i+1)
theorem ah.each {P:Program} {l:List Oper} {Q:Exit→Act→World→Prop} {ds:List Deferred} {T0:Array Value} {S:World→Prop} {V:Nat→Option Value} {R:Nat→Value→World→Prop}:
  ∀(r:List Oper) (i:Nat),ah P l Q ds T0 S V R r i→Each P l.toArray Q ds T0 (fun L u w=>S w∧ ∀j,L j=true→Is V R j (u j) w) r i
 | [],_,_=>trivial
 | o::rest,i,h=>by
  refine ⟨fun L u T w hL hd hF o9 K hK=>?_,ah.each rest (i+1) h.2⟩
  refine h.1 T w o9.1 ⟨fun k d h1 h2=>?_,fun k hk=>hF.out k fun j o' hj he=>?_⟩ K fun v w' hS hi hst=>hK v w' ⟨hS,fun j hj=>?_⟩
  ·have hk:L k=true:=by
    simp only [dK,List.contains_iff_mem,List.mem_map,List.mem_filter,Array.mem_toList_iff] at h1
    obtain ⟨e,⟨he,hb⟩,rfl⟩:=h1
    have:=(Array.all_eq_true_iff_forall_mem.1 hd) e he
    rw [hb] at this
    simpa using this
   obtain ⟨o',ho',hd'⟩:=Option.bind_eq_some_iff.1 h2
   exact ⟨u k,hF.val k o' d (by simpa using ho') hd' hk,o9.2 k hk⟩
  ·have:=List.all_eq_true.1 hk o' (List.mem_of_getElem? (by simpa using hj))
   rw [he] at this
   simp at this
  ·by_cases hji:j=i
   ·subst hji;rw [upd_same];exact hi
   ·rw [upd_ne _ _ hji] at hj⊢
    have h3:=o9.2 j hj
    unfold Is at h3⊢
    cases hv:V j with
    | none=>rw [hv] at h3;exact hst j _ hv h3
    | some v=>rw [hv] at h3;exact h3
section
variable {P:Program} {l:List Oper} {Q:Exit→Act→World→Prop} {ds:List Deferred} {T0:Array Value} {S:World→Prop} {V:Nat→Option Value} {R:Nat→Value→World→Prop} {o:Oper} {rest:List Oper} {i:Nat}
theorem ah.nil:ah P l Q ds T0 S V R [] i:=trivial
theorem ah.plain (hg:o.guard=none)
  (h1: ∀T w,S w→Kn l T0 V R o T w→ ∀K:Act→World→Prop,(∀v w',S w'→Is V R i v w'→(∀j x,V j=none→R j x w→R j x w')→K (Act.put ⟨T,ds⟩ o.dst v) w')→Oper.wp P o ⟨T,ds⟩ w K Q)
  (h2:ah P l Q ds T0 S V R rest (i+1)):ah P l Q ds T0 S V R (o::rest) i:=
 ⟨fun T w hS hk K hK=>by unfold One;rw [if_pos (lH hg)];exact h1 T w hS hk K hK,h2⟩
theorem ah.guarded (j d:Nat) (b:Bool) (hg:o.guard=some (j,b)) (hc:(dK o).contains j=true) (hd:((l[j]?).bind (·.dst))=some d) (hv:V j=some (.bool b))
  (h1: ∀T w,S w→Kn l T0 V R o T w→ ∀K:Act→World→Prop,(∀v w',S w'→Is V R i v w'→(∀j x,V j=none→R j x w→R j x w')→K (Act.put ⟨T,ds⟩ o.dst v) w')→Oper.wp P o ⟨T,ds⟩ w K Q)
  (h2:ah P l Q ds T0 S V R rest (i+1)):ah P l Q ds T0 S V R (o::rest) i:=
 ⟨fun T w hS hk K hK=>by
  unfold One
  rw [if_pos (zS hg (by simpa using hd) (hk.val j d hv hc hd))]
  exact h1 T w hS hk K hK,h2⟩
theorem ah.passed (j d:Nat) (b:Bool) (hg:o.guard=some (j,!b)) (hc:(dK o).contains j=true) (hd:((l[j]?).bind (·.dst))=some d) (hv:V j=some (.bool b)) (hi:V i=some undef)
  (h2:ah P l Q ds T0 S V R rest (i+1)):ah P l Q ds T0 S V R (o::rest) i:=
 ⟨fun T w hS hk K hK=>by
  unfold One
  rw [if_neg (wV hg (by simpa using hd) (hk.val j d hv hc hd))]
  exact hK _ w hS (Is.aj hi) fun _ _ _ h=>h,h2⟩
end
theorem bI {P:Program} {Q:Exit→Act→World→Prop} {id:Nat} {l:List Oper} {a:Act} {w:World} (S:World→Prop) (V:Nat→Option Value) (R:Nat→Value→World→Prop)
  (hm:P.follows .mixedOrders=true) (hap:apartB l=true)
  (hd:(l.all fun o=>match o.dst with | none=>true | some k=>k<a.tmps.size)=true)
  (kR:(l.zipIdx.all fun oi=>oi.1.after.all fun e=> !Region.binds .any e || e.on<oi.2)=true)
  (h0:S {w with drawn:=w.drawn+1})
  (hE:ah P l Q a.defers a.tmps S V R l 0)
  (hend: ∀u w',S w'→(∀j,j<l.length→Is V R j (u j) w')→Q .normal (aK l 0 u a) w'):(Code.region id l.toArray true).wp P Q a w:=
 jm (fun L u w=>S w∧ ∀j,L j=true→Is V R j (u j) w) hm hap hd kR ⟨h0,fun j hj=>by cases hj⟩ (hE.each l 0)
  fun _ u w' hL o9=>hend u w' o9.1 fun j hj=>o9.2 j (hL j hj)
end Go.Proofs.YtacfglopionkfaaGreatDoor.Reg
namespace Go.Proofs.YtacfglopionkfaaGreatDoor.Reg
open Go
def kP (l:List Oper):Nat→List Nat→List Nat
 | 0,s=>s
 | n+1,s=>kP l n (s++s.flatMap fun i=>((l[i]?).map dK).getD []).eraseDups
theorem oN {l:List Oper} {L:Nat→Bool} (hc: ∀i o,l[i]? =some o→L i=true→ ∀j,(dK o).contains j=true→L j=true): ∀(n:Nat) (s:List Nat),(∀i∈s,L i=true)→ ∀j∈kP l n s,L j=true
 | 0,_,h=>h
 | n+1,s,h=>oN hc n _ fun i hi=>by
  rw [List.mem_eraseDups] at hi
  rcases List.mem_append.1 hi with hi | hi
  ·exact h i hi
  ·obtain ⟨k,hk,hi⟩:=List.mem_flatMap.1 hi
   cases ho:l[k]? with
   | none=>rw [ho] at hi;simp at hi
   | some o=>
    rw [ho] at hi
    exact hc k o ho (h k hk) i (by simpa using hi)
structure zh (l:List Oper) (T0:Array Value) (V:Nat→Option Value) (L:Nat→Bool) (u:Nat→Value) (o:Oper) (T:Array Value):Prop where
 dep: ∀k d,(dK o).contains k=true→((l[k]?).bind (·.dst))=some d→T[d]? =some (u k)∧L k=true∧ ∀x,V k=some x→u k=x
 out: ∀k,(l.all fun o=>o.dst !=some k)=true→T[k]? =T0[k]?
theorem zh.val {l:List Oper} {T0:Array Value} {V:Nat→Option Value} {L:Nat→Bool} {u:Nat→Value} {o:Oper} {T:Array Value} (h:zh l T0 V L u o T) (k d:Nat) {v:Value}
  (h3:V k=some v) (h1:(dK o).contains k=true:=by kernel_rfl) (h2:((l[k]?).bind (·.dst))=some d:=by kernel_rfl):T[d]? =some v:=by
 obtain ⟨hx,_,hi⟩:=h.dep k d h1 h2
 rw [hx,hi v h3]
theorem zh.any {l:List Oper} {T0:Array Value} {V:Nat→Option Value} {L:Nat→Bool} {u:Nat→Value} {o:Oper} {T:Array Value} (h:zh l T0 V L u o T) (k d:Nat)
  (h1:(dK o).contains k=true:=by kernel_rfl) (h2:((l[k]?).bind (·.dst))=some d:=by kernel_rfl):T[d]? =some (u k)∧L k=true:=⟨(h.dep k d h1 h2).1,(h.dep k d h1 h2).2.1⟩
theorem zh.old {l:List Oper} {T0:Array Value} {V:Nat→Option Value} {L:Nat→Bool} {u:Nat→Value} {o:Oper} {T:Array Value} (h:zh l T0 V L u o T) (k:Nat) {v:Value}
  (h2:T0[k]? =some v) (h1:(l.all fun o=>o.dst !=some k)=true:=by kernel_rfl):T[k]? =some v:=(h.out k h1).trans h2
def au (P:Program) (l:List Oper) (Q:Exit→Act→World→Prop) (ds:List Deferred) (T0:Array Value) (S:(Nat→Bool)→(Nat→Value)→World→Prop) (V:Nat→Option Value):List Oper→Nat→Prop
 | [],_=>True
 | o::rest,i=>(∀L u T w,L i=false→(∀z,(kP l l.length [z]).contains i=true→L z=false)→S L u w→zh l T0 V L u o T→
   ∀K:Act→World→Prop,(∀v w',S (upd L i true) (upd u i v) w'→(∀x,V i=some x→v=x)→K (Act.put ⟨T,ds⟩ o.dst v) w')→One P l.toArray Q o T ds w K)∧au P l Q ds T0 S V rest (i+1)
section
variable {P:Program} {l:List Oper} {Q:Exit→Act→World→Prop} {ds:List Deferred} {T0:Array Value} {S:(Nat→Bool)→(Nat→Value)→World→Prop} {V:Nat→Option Value} {o:Oper} {rest:List Oper} {i:Nat}
theorem au.nil:au P l Q ds T0 S V [] i:=trivial
theorem au.plain (hg:o.guard=none)
  (h1: ∀L u T w,L i=false→(∀z,(kP l l.length [z]).contains i=true→L z=false)→S L u w→zh l T0 V L u o T→ ∀K:Act→World→Prop,(∀v w',S (upd L i true) (upd u i v) w'→(∀x,V i=some x→v=x)→K (Act.put ⟨T,ds⟩ o.dst v) w')→Oper.wp P o ⟨T,ds⟩ w K Q)
  (h2:au P l Q ds T0 S V rest (i+1)):au P l Q ds T0 S V (o::rest) i:=
 ⟨fun L u T w hL hz hS hk K hK=>by unfold One;rw [if_pos (lH hg)];exact h1 L u T w hL hz hS hk K hK,h2⟩
end
structure YF (l:List Oper) (S:(Nat→Bool)→(Nat→Value)→World→Prop) (V:Nat→Option Value) (L:Nat→Bool) (u:Nat→Value) (w:World):Prop where
 shut: ∀i o,l[i]? =some o→L i=true→ ∀j,(dK o).contains j=true→L j=true
 here:S L u w
 vals: ∀j,L j=true→ ∀x,V j=some x→u j=x
theorem lY {o:Oper} {L:Nat→Bool} (hd:(o.after.all fun e=> !Region.binds .any e || L e.on)=true) (k:Nat) (h:(dK o).contains k=true):L k=true:=by
 simp only [dK,List.contains_iff_mem,List.mem_map,List.mem_filter,Array.mem_toList_iff] at h
 obtain ⟨e,⟨he,hb⟩,rfl⟩:=h
 have:=(Array.all_eq_true_iff_forall_mem.1 hd) e he
 rw [hb] at this
 simpa using this
theorem au.each {P:Program} {l:List Oper} {Q:Exit→Act→World→Prop} {ds:List Deferred} {T0:Array Value} {S:(Nat→Bool)→(Nat→Value)→World→Prop} {V:Nat→Option Value}:
  ∀(r:List Oper) (i:Nat),(∀j o,r[j]? =some o→l[i+j]? =some o)→au P l Q ds T0 S V r i→Each P l.toArray Q ds T0 (YF l S V) r i
 | [],_,_,_=>trivial
 | o ::rest,i,hl,h=>by
  refine ⟨fun L u T w hL hd hF o9 K hK=>?_,au.each rest (i+1) (fun j o' hj=>by rw [show i+1+j=i+(j+1) by omega];exact hl (j+1) o' (by simpa using hj)) h.2⟩
  have hi:l[i]? =some o:=by have:=hl 0 o (by simp);simpa using this
  have hLz: ∀z,(kP l l.length [z]).contains i=true→L z=false:=fun z hz=>by
   cases hb:L z with
   | false=>rfl
   | true=>
    have hr:=oN o9.shut l.length [z] (fun k hk=>by rw [List.mem_singleton.1 hk];exact hb) i (by simpa using hz)
    rw [hL] at hr
    cases hr
  have hshut: ∀k o',l[k]? =some o'→upd L i true k=true→ ∀j,(dK o').contains j=true→upd L i true j=true:=by
   intro k o' hk hLk j hj
   by_cases hji:j=i
   ·subst hji;exact upd_same _ _ _
   ·rw [upd_ne _ _ hji]
    by_cases hki:k=i
    ·subst hki
     rw [hi] at hk
     obtain rfl:=Option.some.inj hk
     exact lY hd j hj
    ·rw [upd_ne _ _ hki] at hLk
     exact o9.shut k o' hk hLk j hj
  refine h.1 L u T w hL hLz o9.here ⟨fun k d h1 h2=>?_,fun k hk=>hF.out k fun j o' hj he=>?_⟩ K fun v w' hS hV=>hK v w' ⟨hshut,hS,fun j hj x hx=>?_⟩
  ·have hk:=lY hd k h1
   obtain ⟨o',ho',hd'⟩:=Option.bind_eq_some_iff.1 h2
   exact ⟨hF.val k o' d (by simpa using ho') hd' hk,hk,o9.vals k hk⟩
  ·have:=List.all_eq_true.1 hk o' (List.mem_of_getElem? (by simpa using hj))
   rw [he] at this
   simp at this
  ·by_cases hji:j=i
   ·subst hji;rw [upd_same];exact hV x hx
   ·rw [upd_ne _ _ hji] at hj⊢
    exact o9.vals j hj x hx
theorem aJ {P:Program} {Q:Exit→Act→World→Prop} {id:Nat} {l:List Oper} {a:Act} {w:World} (S:(Nat→Bool)→(Nat→Value)→World→Prop) (V:Nat→Option Value)
  (hm:P.follows .mixedOrders=true) (hap:apartB l=true)
  (hd:(l.all fun o=>match o.dst with | none=>true | some k=>k<a.tmps.size)=true)
  (kR:(l.zipIdx.all fun oi=>oi.1.after.all fun e=> !Region.binds .any e || e.on<oi.2)=true)
  (h0:S (fun _=>false) (fun _=>undef) {w with drawn:=w.drawn+1})
  (hE:au P l Q a.defers a.tmps S V l 0)
  (hend: ∀L u w',(∀j,j<l.length→L j=true)→S L u w'→(∀j,j<l.length→ ∀x,V j=some x→u j=x)→Q .normal (aK l 0 u a) w'):(Code.region id l.toArray true).wp P Q a w:=
 jm (YF l S V) hm hap hd kR ⟨fun _ _ _ h=>(by cases h),h0,fun _ h=>by cases h⟩ (hE.each l 0 (fun j o hj=>by rw [Nat.zero_add];exact hj))
  fun L u w' hL o9=>hend L u w' hL o9.here fun j hj=>o9.vals j (hL j hj)
end Go.Proofs.YtacfglopionkfaaGreatDoor.Reg
namespace Go.Proofs.YtacfglopionkfaaGreatDoor
section
variable {P:Program}
def spl (cur:List Value) (o:Nat) (vs:List Value):List Value:=cur.take o++vs++cur.drop (o+vs.length)
theorem Uj (cur:List Value) (o:Nat) (vs:List Value) (h:o+vs.length≤cur.length) (j:Nat):(spl cur o vs)[j]? =if j<o then cur[j]? else if j<o+vs.length then vs[j - o]? else cur[j]? :=by
 unfold spl
 have h1:(cur.take o).length=o:=by rw [List.length_take];omega
 by_cases hj:j<o
 ·rw [if_pos hj,List.append_assoc,List.getElem?_append_left (by omega),List.getElem?_take,if_pos hj]
 ·rw [if_neg hj,List.append_assoc,List.getElem?_append_right (by omega),h1]
  by_cases hj2:j<o+vs.length
  ·rw [if_pos hj2,List.getElem?_append_left (by omega)]
  ·rw [if_neg hj2,List.getElem?_append_right (by omega),List.getElem?_drop]
   congr 1
   omega
theorem uh (w:World) (g o:Nat) (t ty:TypeId) (cs:Array Value) (part:List Value) (fr:Nat × Nat) (d:TypeDesc) (hg:w.heap[g]? =some (.cells cs t fr)) (hp: ∀j u,part[j]? =some u→cs[o+j]? =some u)
  (hu:P.underlying ty=some d) (hd:(match d with | .struct _ | .array _ _=>true | _=>false)=true) (hi:(P.info? ty).map (·.size)=some part.length):
  (loadVar ty ⟨g,o,none⟩).run P w= .ok (.agg part.toArray) w:=by
 have hl:(loadCells ⟨g,o,none⟩ part.length).run P w= .ok part.toArray w:=
  run_loadCells_list (P:=P) w ⟨g,o,none⟩ part (fun j v hv=>by
   rw [WideShapes.add_plain,cell_of_row w g _ cs t fr hg]
   exact hp j v hv)
 cases hq:P.info? ty with
 | none=>simp [hq] at hi
 | some i=>
  have hs:i.size=part.length:=by simpa [hq] using hi
  have hagg:(isAgg ty).run P w= .ok true w:=by
   unfold isAgg
   rw [Sem.run_bind,run_underlying hu w]
   cases d<;>simp_all
  simp [loadVar,Sem.run_bind,hagg,sizeOf,typeInfo,hq,hs,hl]
theorem qj (g o:Nat) (t:TypeId): ∀(vs:List Value) (i:Nat) (cur:Array Value) (w:World),w.heap[g]? =some (.cells cur t (0,0))→o+i+vs.length≤cur.size→(∀v∈vs,v.oneCell'=true)→
  (storeCells ⟨g,o,none⟩ vs i).run P w= .ok () (w.setRow g (spl cur.toList (o+i) vs).toArray)
 | [],i,cur,w,hg,hl,_=>by
  have e:spl cur.toList (o+i) []=cur.toList:=by unfold spl;simp
  have hlt:g<w.heap.size:=(Array.getElem?_eq_some_iff.1 hg).1
  have hv:w.heap[g]= .cells cur t (0,0):=(Array.getElem?_eq_some_iff.1 hg).2
  rw [e,Array.toArray_toList]
  simp only [storeCells]
  show Result.ok () w=_
  congr 1
  unfold World.setRow
  cases w with
  | mk heap tape drawn os output=>
   congr 1
   apply Array.ext
   ·simp
   ·intro k h1 h2
    simp only [Array.getElem_modify]
    split
    ·rename_i hk;subst hk;simp at hv;simp [hv]
    ·rfl
 | v ::rest,i,cur,w,hg,hl,h1=>by
  have hi:o+i<cur.size:=by simp at hl;omega
  have hadd:(⟨g,o,none⟩:Addr).add i=⟨g,o+i,none⟩:=WideShapes.add_plain _ _ _
  have hcell:w.cell? ⟨g,o+i,none⟩=some cur[o+i]:=by simp [World.cell?,hg,hi]
  have hfro:w.frozen? ⟨g,o+i,none⟩=false:=by simp [World.frozen?,hg]
  have hst:(store ((⟨g,o,none⟩:Addr).add i) v).run P w= .ok () (w.setRow g (cur.setIfInBounds (o+i) v)):=by
   rw [hadd,run_store P w _ v _ (h1 v (by simp)),hcell]
   simp [hfro,setCell_eq_setRow w g (o+i) cur t (0,0) v hg]
  have ih:=qj g o t rest (i+1) (cur.setIfInBounds (o+i) v) (w.setRow g (cur.setIfInBounds (o+i) v)) (setRow_heap w g cur _ t _ hg) (by simp at hl⊢;omega) (fun x hx=>h1 x (by simp [hx]))
  simp only [storeCells,Sem.run_bind,hst,Result.andThen_ok,ih,setRow_setRow]
  congr 3
  apply List.ext_getElem?
  intro k
  have hl':o+i+(v::rest).length≤cur.toList.length:=by simpa using hl
  have hl2:o+(i+1)+rest.length≤(cur.setIfInBounds (o+i) v).toList.length:=by simp at hl⊢;omega
  rw [Uj _ _ _ hl',Uj _ _ _ hl2]
  simp only [Array.toList_setIfInBounds,List.getElem?_set,List.length_cons,Array.length_toList]
  by_cases hk:k<o+i
  ·rw [if_pos (show k<o+(i+1) by omega),if_pos hk,if_neg (show¬o+i=k by omega)]
  ·by_cases hk2:k=o+i
   ·subst hk2
    rw [if_pos (show o+i<o+(i+1) by omega),if_neg (show¬o+i<o+i by omega),if_pos (show o+i<o+i+(rest.length+1) by omega),if_pos rfl,if_pos (show o+i<cur.size from hi),Nat.sub_self]
    rfl
   ·rw [if_neg (show¬k<o+(i+1) by omega),if_neg hk]
    by_cases hk3:k<o+(i+1)+rest.length
    ·rw [if_pos hk3,if_pos (show k<o+i+(rest.length+1) by omega),show k - (o+i)=(k - (o+(i+1)))+1 by omega]
     rfl
    ·rw [if_neg hk3,if_neg (show¬k<o+i+(rest.length+1) by omega),if_neg (show¬o+i=k by omega)]
theorem Ag (w:World) (g o:Nat) (t ty:TypeId) (cur:Array Value) (vs:List Value) (hg:w.heap[g]? =some (.cells cur t (0,0))) (hi:(P.info? ty).map (·.size)=some vs.length)
  (ho:o+vs.length≤cur.size) (h1:vs.all (·.oneCell')=true):
  (storeVar ty ⟨g,o,none⟩ (.agg vs.toArray)).run P w= .ok () (w.setRow g (spl cur.toList o vs).toArray):=by
 have:=qj (P:=P) g o t vs 0 cur w hg (by omega) (fun v hv=>(List.all_eq_true.1 h1) v hv)
 rw [Nat.add_zero] at this
 cases hq:P.info? ty with
 | none=>simp [hq] at hi
 | some i=>
  have hs:vs.length=i.size:=by simp [hq] at hi;omega
  simp [storeVar,sizeOf,typeInfo,hq,Value.cells,hs,this]
theorem bW {o:Oper} {a:Act} {w:World} {K:Act→World→Prop} {Q:Exit→Act→World→Prop} (ty:TypeId) (x:Operand) (ho:o.op= .load ty x)
  (g i:Nat) (hx:a.eval x= .pointer (some ⟨g,i,none⟩)) (t:TypeId) (cs:Array Value) (part:List Value) (fr:Nat × Nat) (d:TypeDesc) (hg:w.heap[g]? =some (.cells cs t fr)) (hp: ∀j u,part[j]? =some u→cs[i+j]? =some u)
  (hu:P.underlying ty=some d) (hd:(match d with | .struct _ | .array _ _=>true | _=>false)=true) (hi:(P.info? ty).map (·.size)=some part.length)
  (h:K (a.put o.dst (.agg part.toArray)) w):o.wp P a w K Q:=by
 unfold Oper.wp execOp
 simp only [ho,hx,Instr.loadAt,Instr.sureAddr,Sem.run_bind,Sem.run_pure,Result.andThen_ok,uh w g i t ty cs part fr d hg hp hu hd hi]
 exact h
theorem FZ {o:Oper} {a:Act} {w:World} {K:Act→World→Prop} {Q:Exit→Act→World→Prop} (ty:TypeId) (x y:Operand) (ho:o.op= .store ty x y)
  (g i:Nat) (vs:List Value) (hx:a.eval x= .pointer (some ⟨g,i,none⟩)) (hy:a.eval y= .agg vs.toArray)
  (t:TypeId) (cur:Array Value) (hg:w.heap[g]? =some (.cells cur t (0,0))) (hi:(P.info? ty).map (·.size)=some vs.length)
  (hc:i+vs.length≤cur.size) (h1:vs.all (·.oneCell')=true)
  (h:K (a.put o.dst undef) (w.setRow g (spl cur.toList i vs).toArray)):o.wp P a w K Q:=by
 unfold Oper.wp execOp
 simp only [ho,hx,hy,Instr.storeAt,Instr.sureAddr,Sem.run_bind,Sem.run_pure,Result.andThen_ok,Ag w g i t ty cur vs hg hi hc h1]
 exact h
theorem jE {ops:Array Oper} {rest:List Oper} {o:Oper} {a:Act} {w:World} {Q:Exit→Act→World→Prop} (hgd:o.guard=none) (ty:TypeId) (x:Operand) (ho:o.op= .load ty x)
  (g i:Nat) (hx:a.eval x= .pointer (some ⟨g,i,none⟩)) (t:TypeId) (cs:Array Value) (part:List Value) (fr:Nat × Nat) (d:TypeDesc) (hg:w.heap[g]? =some (.cells cs t fr)) (hp: ∀j u,part[j]? =some u→cs[i+j]? =some u)
  (hu:P.underlying ty=some d) (hd:(match d with | .struct _ | .array _ _=>true | _=>false)=true) (hi:(P.info? ty).map (·.size)=some part.length)
  (h:wpList P ops Q rest (a.put o.dst (.agg part.toArray)) w):wpList P ops Q (o::rest) a w:=
 wpList_plain hgd fun _ hK=>bW ty x ho g i hx t cs part fr d hg hp hu hd hi (hK _ _ h)
theorem sK {ops:Array Oper} {rest:List Oper} {o:Oper} {a:Act} {w:World} {Q:Exit→Act→World→Prop} (hgd:o.guard=none) (ty:TypeId) (x y:Operand) (ho:o.op= .store ty x y) (hd:o.dst=none)
  (g i:Nat) (vs:List Value) (hx:a.eval x= .pointer (some ⟨g,i,none⟩)) (hy:a.eval y= .agg vs.toArray)
  (t:TypeId) (cur:Array Value) (hg:w.heap[g]? =some (.cells cur t (0,0))) (hi:(P.info? ty).map (·.size)=some vs.length)
  (hc:i+vs.length≤cur.size) (h1:vs.all (·.oneCell')=true)
  (h:wpList P ops Q rest a (w.setRow g (spl cur.toList i vs).toArray)):wpList P ops Q (o::rest) a w:=
 wpList_plain hgd fun _ hK=>FZ ty x y ho g i vs hx hy t cur hg hi hc h1 (hK _ _ (by rw [hd];exact h))
end
end Go.Proofs.YtacfglopionkfaaGreatDoor
namespace Go.Proofs.YtacfglopionkfaaGreatDoor.Reg2
open Go
def One (P:Program) (ops:Array Oper) (Q:Exit→Act→World→Prop) (o:Oper) (T:Array Value) (ds:List Deferred) (w:World) (K:Act→World→Prop):Prop:=
 if Region.wanted o (yielded ops T)=true then Oper.wp P o ⟨T,ds⟩ w K Q else K (Act.put ⟨T,ds⟩ o.dst undef) w
def upd {α:Type} (f:Nat→α) (i:Nat) (v:α):Nat→α:=fun j=>if j=i then v else f j
@[simp] theorem upd_same {α:Type} (f:Nat→α) (i:Nat) (v:α):upd f i v i=v:=by simp [upd]
theorem upd_ne {α:Type} (f:Nat→α) {i j:Nat} (v:α) (h:j≠i):upd f i v j=f j:=by simp [upd,h]
def aK (ops:List Oper) (k:Nat) (u:Nat→Value) (a:Act):Act:=
 match ops with
 | []=>a
 | o::rest=>aK rest (k+1) u (a.put o.dst (u k))
structure Fr (ops:Array Oper) (T0:Array Value) (L:Nat→Bool) (u:Nat→Value) (T:Array Value):Prop where
 size:T.size=T0.size
 out: ∀k,(∀(j:Nat) (o:Oper),ops[j]? =some o→o.dst≠some k)→T[k]? =T0[k]?
 val: ∀(j:Nat) (o:Oper) (k:Nat),ops[j]? =some o→o.dst=some k→L j=true→T[k]? =some (u j)
 yet: ∀(j:Nat) (o:Oper) (k:Nat),ops[j]? =some o→o.dst=some k→L j=false→T[k]? =T0[k]?
def Each (P:Program) (ops:Array Oper) (Q:Exit→Act→World→Prop) (ds:List Deferred) (T0:Array Value) (Φ:(Nat→Bool)→(Nat→Value)→World→Prop):List Oper→Nat→Prop
 | [],_=>True
 | o::rest,i=>(∀L u T w,L i=false→(o.after.all fun e=> !Region.binds .any e || L e.on)=true→Fr ops T0 L u T→Φ L u w→
   ∀K:Act→World→Prop,(∀v w',Φ (upd L i true) (upd u i v) w'→K (Act.put ⟨T,ds⟩ o.dst v) w')→One P ops Q o T ds w K)∧Each P ops Q ds T0 Φ rest (i+1)
theorem Each.at {P:Program} {ops:Array Oper} {Q:Exit→Act→World→Prop} {ds:List Deferred} {T0:Array Value} {Φ:(Nat→Bool)→(Nat→Value)→World→Prop}:
  ∀(l:List Oper) (k:Nat),Each P ops Q ds T0 Φ l k→ ∀(j:Nat) (o:Oper),l[j]? =some o→
   ∀L u T w,L (k+j)=false→(o.after.all fun e=> !Region.binds .any e || L e.on)=true→Fr ops T0 L u T→Φ L u w→
   ∀K:Act→World→Prop,(∀v w',Φ (upd L (k+j) true) (upd u (k+j) v) w'→K (Act.put ⟨T,ds⟩ o.dst v) w')→One P ops Q o T ds w K
 | [],_,_,_,_,h=>by simp at h
 | _::_,k,hE,0,o,h=>by
  simp only [List.getElem?_cons_zero,Option.some.injEq] at h;subst h;exact hE.1
 | _::rest,k,hE,j+1,o,h=>by
  have:=Each.at rest (k+1) hE.2 j o (by simpa using h)
  rw [show k+(j+1)=k+1+j by omega]
  exact this
def apartB:List Oper→Bool
 | []=>true
 | o::rest=>(match o.dst with | none=>true | some k=>rest.all fun o'=>o'.dst !=some k) && apartB rest
theorem apart_spec: ∀(l:List Oper),apartB l=true→ ∀(i j:Nat) (o o':Oper) (k:Nat),l[i]? =some o→l[j]? =some o'→o.dst=some k→o'.dst=some k→i=j
 | [],_,i,j,_,_,_,h,_,_,_=>by simp at h
 | o0::rest,hb,i,j,o,o',k,hi,hj,h1,h2=>by
  simp only [apartB,Bool.and_eq_true] at hb
  have key: ∀(j:Nat) (o':Oper),rest[j]? =some o'→o0.dst=some k→o'.dst=some k→False:=fun j o' hj h1 h2=>by
   have hb1:=hb.1
   rw [h1] at hb1
   have:=List.all_eq_true.1 hb1 o' (List.mem_of_getElem? hj)
   rw [h2] at this
   simp at this
  match i,j,hi,hj with
  | 0,0,_,_=>rfl
  | 0,j+1,hi,hj=>
   simp only [List.getElem?_cons_zero,Option.some.injEq] at hi;subst hi
   exact (key j o' (by simpa using hj) h1 h2).elim
  | i+1,0,hi,hj=>
   simp only [List.getElem?_cons_zero,Option.some.injEq] at hj;subst hj
   exact (key i o (by simpa using hi) h2 h1).elim
  | i+1,j+1,hi,hj=>
   have:=apart_spec rest hb.2 i j o o' k (by simpa using hi) (by simpa using hj) h1 h2
   omega
theorem Fr.put {l:List Oper} {T0 T:Array Value} {L:Nat→Bool} {u:Nat→Value} (hap:apartB l=true) (h:Fr l.toArray T0 L u T)
  {i:Nat} {o:Oper} (hi:l[i]? =some o) (hd: ∀k,o.dst=some k→k<T0.size) (ds:List Deferred) (v:Value):
  Fr l.toArray T0 (upd L i true) (upd u i v) (Act.put ⟨T,ds⟩ o.dst v).tmps:=by
 have hi':l.toArray[i]? =some o:=by simpa using hi
 cases hdst:o.dst with
 | none=>
  refine ⟨h.size,h.out,fun j o' k hj hk hL=>?_,fun j o' k hj hk hL=>?_⟩
  ·by_cases hji:j=i
   ·subst hji
    rw [hj] at hi';simp only [Option.some.injEq] at hi';subst hi'
    rw [hdst] at hk;cases hk
   ·rw [upd_ne _ _ hji] at hL
    rw [upd_ne _ _ hji]
    exact h.val j o' k hj hk hL
  ·by_cases hji:j=i
   ·subst hji;rw [upd_same] at hL;cases hL
   ·rw [upd_ne _ _ hji] at hL
    exact h.yet j o' k hj hk hL
 | some d=>
  refine ⟨by simp [Act.put,h.size],fun k hk=>?_,fun j o' k hj hk hL=>?_,fun j o' k hj hk hL=>?_⟩
  ·have hne:d≠k:=fun e=>hk i o hi' (by rw [hdst,e])
   simp only [Act.put,Array.getElem?_setIfInBounds,if_neg hne]
   exact h.out k hk
  ·by_cases hji:j=i
   ·subst hji
    rw [hj] at hi';simp only [Option.some.injEq] at hi';subst hi'
    rw [hdst] at hk;simp only [Option.some.injEq] at hk;subst hk
    have hlt:d<T.size:=by rw [h.size];exact hd d hdst
    simp [Act.put,hlt]
   ·have hne:d≠k:=fun e=>hji (apart_spec l hap j i o' o k (by simpa using hj) hi hk (by rw [hdst,e]))
    simp only [Act.put,Array.getElem?_setIfInBounds,if_neg hne]
    rw [upd_ne _ _ hji] at hL
    rw [upd_ne _ _ hji]
    exact h.val j o' k hj hk hL
  ·by_cases hji:j=i
   ·subst hji;rw [upd_same] at hL;cases hL
   ·have hne:d≠k:=fun e=>hji (apart_spec l hap j i o' o k (by simpa using hj) hi hk (by rw [hdst,e]))
    simp only [Act.put,Array.getElem?_setIfInBounds,if_neg hne]
    rw [upd_ne _ _ hji] at hL
    exact h.yet j o' k hj hk hL
theorem iQ: ∀(l:List Oper) (k:Nat) (u:Nat→Value) (a:Act),(aK l k u a).defers=a.defers
 | [],_,_,_=>rfl
 | o::rest,k,u,a=>by
  simp only [aK]
  rw [iQ rest]
  unfold Act.put
  cases o.dst<;>rfl
theorem iZ: ∀(l:List Oper) (k:Nat) (u:Nat→Value) (a:Act) (d:Nat),(∀o∈l,o.dst≠some d)→(aK l k u a).tmps[d]? =a.tmps[d]?
 | [],_,_,_,_,_=>rfl
 | o::rest,k,u,a,d,h=>by
  simp only [aK]
  rw [iZ rest _ _ _ _ (fun o' ho'=>h o' (List.mem_cons_of_mem _ ho'))]
  unfold Act.put
  cases hd:o.dst with
  | none=>rfl
  | some d'=>
   have:d'≠d:=fun e=>h o (List.mem_cons_self) (by rw [hd,e])
   simp [this]
theorem kV: ∀(l:List Oper) (k:Nat) (u:Nat→Value) (a:Act),apartB l=true→ ∀(j:Nat) (o:Oper) (d:Nat),l[j]? =some o→o.dst=some d→d<a.tmps.size→
  (aK l k u a).tmps[d]? =some (u (k+j))
 | [],_,_,_,_,_,_,_,h,_,_=>by simp at h
 | o0::rest,k,u,a,hap,0,o,d,h,hd,hs=>by
  simp only [List.getElem?_cons_zero,Option.some.injEq] at h;subst h
  simp only [aK]
  simp only [apartB,Bool.and_eq_true] at hap
  rw [iZ]
  ·simp [Act.put,hd,hs]
  ·intro o' ho' he
   have h1:=hap.1
   rw [hd] at h1
   have:=List.all_eq_true.1 h1 o' ho'
   rw [he] at this
   simp at this
 | o0::rest,k,u,a,hap,j+1,o,d,h,hd,hs=>by
  simp only [aK]
  simp only [apartB,Bool.and_eq_true] at hap
  rw [kV rest (k+1) u _ hap.2 j o d (by simpa using h) hd (by unfold Act.put;cases o0.dst<;>simpa using hs)]
  congr 2;omega
theorem vW {l:List Oper} {a:Act} {L:Nat→Bool} {u:Nat→Value} {T:Array Value} (hap:apartB l=true) (hd: ∀o∈l,∀k,o.dst=some k→k<a.tmps.size)
  (h:Fr l.toArray a.tmps L u T) (hL: ∀j,j<l.length→L j=true):aK l 0 u a=⟨T,a.defers⟩:=by
 have h1:(aK l 0 u a).tmps=T:=by
  apply Array.ext_getElem?
  intro k
  by_cases hk: ∃(j:Nat) (o:Oper),l[j]? =some o∧o.dst=some k
  ·obtain ⟨j,o,hj,hk⟩:=hk
   have hlt:j<l.length:=(List.getElem?_eq_some_iff.1 hj).1
   rw [kV l 0 u a hap j o k hj hk (hd o (List.mem_of_getElem? hj) k hk),h.val j o k (by simpa using hj) hk (hL j hlt),Nat.zero_add]
  ·rw [iZ,h.out]
   ·intro j o hj he;exact hk ⟨j,o,by simpa using hj,he⟩
   ·intro o ho he
    obtain ⟨j,hj⟩:=List.getElem?_of_mem ho
    exact hk ⟨j,o,hj,he⟩
 have h2:=iQ l 0 u a
 cases hp:aK l 0 u a with
 | mk t d=>rw [hp] at h1 h2;simp only at h1 h2;rw [h1,h2]
section
variable {P:Program} {Q:Exit→Act→World→Prop}
def left (listed:Array Bool):Nat:=listed.toList.countP (fun b=> !b)
theorem kT: ∀(l:List Bool) (i:Nat),l[i]? =some false→(l.set i true).countP (fun b=> !b)+1=l.countP (fun b=> !b)
 | [],_,h=>by simp at h
 | b::l,0,h=>by
  simp only [List.getElem?_cons_zero,Option.some.injEq] at h;subst h
  simp
 | b::l,i+1,h=>by
  have:=kT l i (by simpa using h)
  simp only [List.set_cons_succ,List.countP_cons]
  omega
theorem jm {id:Nat} {l:List Oper} {a:Act} {w:World} (Φ:(Nat→Bool)→(Nat→Value)→World→Prop)
  (hm:P.follows .mixedOrders=true) (hap:apartB l=true)
  (hd:(l.all fun o=>match o.dst with | none=>true | some k=>k<a.tmps.size)=true)
  (kR:(l.zipIdx.all fun oi=>oi.1.after.all fun e=> !Region.binds .any e || e.on<oi.2)=true)
  (h0:Φ (fun _=>false) (fun _=>undef) {w with drawn:=w.drawn+1})
  (hE:Each P l.toArray Q a.defers a.tmps Φ l 0)
  (hend: ∀L u w',(∀j,j<l.length→L j=true)→Φ L u w'→Q .normal (aK l 0 u a) w'):(Code.region id l.toArray true).wp P Q a w:=by
 refine wp_region_any hm ?_
 have hd': ∀o∈l,∀k,o.dst=some k→k<a.tmps.size:=fun o ho k hk=>by
  have:=List.all_eq_true.1 hd o ho
  rw [hk] at this
  simpa using this
 have key : ∀(fuel:Nat) (listed:Array Bool) (L:Nat→Bool) (u:Nat→Value) (T:Array Value) (w:World),
   left listed≤fuel→listed.size=l.length→(∀j,j<l.length→L j=listed.getD j true)→Fr l.toArray a.tmps L u T→Φ L u w→wpAny P .any l.toArray Q fuel listed ⟨T,a.defers⟩ w:=by
  intro fuel
  induction fuel with
  | zero=>
   intro listed L u T w hf hs hL hF o9
   have hall: ∀j,j<l.length→L j=true:=by
    intro j hj
    rw [hL j hj]
    cases hb:listed.getD j true with
    | true=>rfl
    | false=>
     have hlt:j<listed.size:=by omega
     have hb':listed[j]? =some false:=by
      rw [Array.getElem?_eq_getElem hlt]
      simpa [Array.getD,hlt] using hb
     have:=kT listed.toList j (by simpa using hb')
     unfold left at hf
     omega
   refine ⟨?_,by rw [←vW hap hd' hF hall];exact hend L u w hall o9⟩
   unfold Region.ready
   rw [List.filter_eq_nil_iff]
   intro j hj
   simp only [List.mem_range,List.size_toArray] at hj
   rw [←hL j hj,hall j hj]
   simp
  | succ fuel ih=>
   intro listed L u T w hf hs hL hF o9
   refine ⟨fun hr=>?_,fun i hi=>?_⟩
   ·
    have hall: ∀j,j<l.length→L j=true:=by
     intro j
     induction j using Nat.strongRecOn with
     | ind j ihj=>
      intro hj
      rw [hL j hj]
      cases hb:listed.getD j true with
      | true=>rfl
      | false=>
       have hmem:j∈Region.ready .any l.toArray listed:=by
        refine mem_ready.2 ⟨hb,l[j],by simp [hj],fun e he hbd=>?_⟩
        have h1:=List.all_eq_true.1 kR (l[j],j) (by
         rw [List.mem_iff_getElem?]
         exact ⟨j,by simp [hj]⟩)
        simp only [Array.all_eq_true_iff_forall_mem] at h1
        have h2:=h1 e he
        rw [hbd] at h2
        simp at h2
        have h3:=ihj e.on h2 (by omega)
        rw [hL _ (by omega)] at h3
        have hlt:e.on<listed.size:=by omega
        simpa [Array.getD,hlt] using h3
       rw [hr] at hmem
       cases hmem
    rw [←vW hap hd' hF hall]
    exact hend L u w hall o9
   ·obtain ⟨hun,o,ho,Tt⟩:=mem_ready.1 hi
    have ho':l[i]? =some o:=by simpa using ho
    have hlt:i<l.length:=(List.getElem?_eq_some_iff.1 ho').1
    have hLi:L i=false:=by rw [hL i hlt];exact hun
    have JV :(o.after.all fun e=> !Region.binds .any e || L e.on)=true:=by
     rw [Array.all_eq_true_iff_forall_mem]
     intro e he
     cases hb:Region.binds .any e with
     | false=>simp
     | true =>
      have h1:=List.all_eq_true.1 kR (o,i) (by
            rw [List.mem_iff_getElem?]
            exact ⟨i,by
             rw [List.getElem?_eq_some_iff] at ho'
             obtain ⟨h,rfl⟩:=ho'
             simp⟩)
      simp only [Array.all_eq_true_iff_forall_mem] at h1
      have h2:=h1 e he
      rw [hb] at h2
      simp at h2
      have h3:=Tt e he hb
      have hlt':e.on<listed.size:=by omega
      rw [hL e.on (by omega)]
      simpa [Array.getD,hlt'] using h3
    have hone:=Each.at l 0 hE i o ho' L u T w (by simpa using hLi) JV hF o9
    rw [Nat.zero_add] at hone
    refine wpOp_step ho fun K' hK'=>?_
    refine hone K' fun v w' S9=>hK' _ _ ?_
    have hF':=Fr.put (T:=T) hap hF ho' (fun k hk=>hd' o (List.mem_of_getElem? ho') k hk) a.defers v
    have hput:Act.put ⟨T,a.defers⟩ o.dst v=⟨(Act.put ⟨T,a.defers⟩ o.dst v).tmps,a.defers⟩:=by
     unfold Act.put
     cases o.dst<;>rfl
    rw [hput]
    refine ih (listed.setIfInBounds i true) (upd L i true) (upd u i v) _ w' ?_ (by simpa using hs) ?_ hF' S9
    ·have hb':listed[i]? =some false:=by
      have hlt':i<listed.size:=by omega
      rw [Array.getElem?_eq_getElem hlt']
      simpa [Array.getD,hlt'] using hun
     have:=kT listed.toList i (by simpa using hb')
     unfold left at*
     simp only [Array.toList_setIfInBounds]
     omega
    ·intro j hj
     by_cases hji:j=i
     ·subst hji
      have hlt':j<listed.size:=by omega
      simp [Array.getD,hlt']
     ·rw [upd_ne _ _ hji,hL j hj,getD_set_ne true (Ne.symm hji)]
 have hstart:=key l.length (Array.replicate l.length false) (fun _=>false) (fun _=>undef) a.tmps {w with drawn:=w.drawn+1}
  (by unfold left;simp [List.countP_replicate]) (by simp) (fun j hj=>by simp [Array.getD,hj]) ⟨rfl,fun _ _=>rfl,fun _ _ _ _ _ h=>(by cases h),fun _ _ _ _ _ _=>rfl⟩ h0
 simpa using hstart
end
def dK (o:Oper):List Nat:=(o.after.toList.filter fun e=>Region.binds .any e).map (·.on)
theorem lH {o:Oper} {y:Nat→Option Bool} (h:o.guard=none):Region.wanted o y=true:=by
 unfold Region.wanted;rw [h]
def kP (l:List Oper):Nat→List Nat→List Nat
 | 0,s=>s
 | n+1,s=>kP l n (s++s.flatMap fun i=>((l[i]?).map dK).getD []).eraseDups
theorem oN {l:List Oper} {L:Nat→Bool} (hc: ∀i o,l[i]? =some o→L i=true→ ∀j,(dK o).contains j=true→L j=true): ∀(n:Nat) (s:List Nat),(∀i∈s,L i=true)→ ∀j∈kP l n s,L j=true
 | 0,_,h=>h
 | n+1,s,h=>oN hc n _ fun i hi=>by
  rw [List.mem_eraseDups] at hi
  rcases List.mem_append.1 hi with hi | hi
  ·exact h i hi
  ·obtain ⟨k,hk,hi⟩:=List.mem_flatMap.1 hi
   cases ho:l[k]? with
   | none=>rw [ho] at hi;simp at hi
   | some o=>
    rw [ho] at hi
    exact hc k o ho (h k hk) i (by simpa using hi)
structure zh (l:List Oper) (T0:Array Value) (V:Nat→Option Value) (L:Nat→Bool) (u:Nat→Value) (o:Oper) (T:Array Value):Prop where
 dep: ∀k d,(dK o).contains k=true→((l[k]?).bind (·.dst))=some d→T[d]? =some (u k)∧L k=true∧ ∀x,V k=some x→u k=x
 out: ∀k,(l.all fun o=>o.dst !=some k)=true→T[k]? =T0[k]?
 yet: ∀j k,((l[j]?).bind (·.dst))=some k→L j=false→T[k]? =T0[k]?
theorem zh.later {l:List Oper} {T0:Array Value} {V:Nat→Option Value} {L:Nat→Bool} {u:Nat→Value} {o:Oper} {T:Array Value} (h:zh l T0 V L u o T) (j k:Nat) {v:Value}
  (h1:((l[j]?).bind (·.dst))=some k) (h2:L j=false) (h3:T0[k]? =some v):T[k]? =some v:=(h.yet j k h1 h2).trans h3
theorem zh.val {l:List Oper} {T0:Array Value} {V:Nat→Option Value} {L:Nat→Bool} {u:Nat→Value} {o:Oper} {T:Array Value} (h:zh l T0 V L u o T) (k d:Nat) {v:Value}
  (h3:V k=some v) (h1:(dK o).contains k=true:=by kernel_rfl) (h2:((l[k]?).bind (·.dst))=some d:=by kernel_rfl):T[d]? =some v:=by
 obtain ⟨hx,_,hi⟩:=h.dep k d h1 h2
 rw [hx,hi v h3]
theorem zh.any {l:List Oper} {T0:Array Value} {V:Nat→Option Value} {L:Nat→Bool} {u:Nat→Value} {o:Oper} {T:Array Value} (h:zh l T0 V L u o T) (k d:Nat)
  (h1:(dK o).contains k=true:=by kernel_rfl) (h2:((l[k]?).bind (·.dst))=some d:=by kernel_rfl):T[d]? =some (u k)∧L k=true:=⟨(h.dep k d h1 h2).1,(h.dep k d h1 h2).2.1⟩
theorem zh.old {l:List Oper} {T0:Array Value} {V:Nat→Option Value} {L:Nat→Bool} {u:Nat→Value} {o:Oper} {T:Array Value} (h:zh l T0 V L u o T) (k:Nat) {v:Value}
  (h2:T0[k]? =some v) (h1:(l.all fun o=>o.dst !=some k)=true:=by kernel_rfl):T[k]? =some v:=(h.out k h1).trans h2
def au (P:Program) (l:List Oper) (Q:Exit→Act→World→Prop) (ds:List Deferred) (T0:Array Value) (S:(Nat→Bool)→(Nat→Value)→World→Prop) (V:Nat→Option Value):List Oper→Nat→Prop
 | [],_=>True
 | o::rest,i=>(∀L u T w,L i=false→(∀z,(kP l l.length [z]).contains i=true→L z=false)→S L u w→zh l T0 V L u o T→
   ∀K:Act→World→Prop,(∀v w',S (upd L i true) (upd u i v) w'→(∀x,V i=some x→v=x)→K (Act.put ⟨T,ds⟩ o.dst v) w')→One P l.toArray Q o T ds w K)∧au P l Q ds T0 S V rest (i+1)
section
variable {P:Program} {l:List Oper} {Q:Exit→Act→World→Prop} {ds:List Deferred} {T0:Array Value} {S:(Nat→Bool)→(Nat→Value)→World→Prop} {V:Nat→Option Value} {o:Oper} {rest:List Oper} {i:Nat}
theorem au.nil:au P l Q ds T0 S V [] i:=trivial
theorem au.plain (hg:o.guard=none)
  (h1: ∀L u T w,L i=false→(∀z,(kP l l.length [z]).contains i=true→L z=false)→S L u w→zh l T0 V L u o T→ ∀K:Act→World→Prop,(∀v w',S (upd L i true) (upd u i v) w'→(∀x,V i=some x→v=x)→K (Act.put ⟨T,ds⟩ o.dst v) w')→Oper.wp P o ⟨T,ds⟩ w K Q)
  (h2:au P l Q ds T0 S V rest (i+1)):au P l Q ds T0 S V (o::rest) i:=
 ⟨fun L u T w hL hz hS hk K hK=>by unfold One;rw [if_pos (lH hg)];exact h1 L u T w hL hz hS hk K hK,h2⟩
end
structure YF (l:List Oper) (S:(Nat→Bool)→(Nat→Value)→World→Prop) (V:Nat→Option Value) (L:Nat→Bool) (u:Nat→Value) (w:World):Prop where
 shut: ∀i o,l[i]? =some o→L i=true→ ∀j,(dK o).contains j=true→L j=true
 here:S L u w
 vals: ∀j,L j=true→ ∀x,V j=some x→u j=x
theorem lY {o:Oper} {L:Nat→Bool} (hd:(o.after.all fun e=> !Region.binds .any e || L e.on)=true) (k:Nat) (h:(dK o).contains k=true):L k=true:=by
 simp only [dK,List.contains_iff_mem,List.mem_map,List.mem_filter,Array.mem_toList_iff] at h
 obtain ⟨e,⟨he,hb⟩,rfl⟩:=h
 have:=(Array.all_eq_true_iff_forall_mem.1 hd) e he
 rw [hb] at this
 simpa using this
theorem au.each {P:Program} {l:List Oper} {Q:Exit→Act→World→Prop} {ds:List Deferred} {T0:Array Value} {S:(Nat→Bool)→(Nat→Value)→World→Prop} {V:Nat→Option Value}:
  ∀(r:List Oper) (i:Nat),(∀j o,r[j]? =some o→l[i+j]? =some o)→au P l Q ds T0 S V r i→Each P l.toArray Q ds T0 (YF l S V) r i
 | [],_,_,_=>trivial
 | o ::rest,i,hl,h=>by
  refine ⟨fun L u T w hL hd hF o9 K hK=>?_,au.each rest (i+1) (fun j o' hj=>by rw [show i+1+j=i+(j+1) by omega];exact hl (j+1) o' (by simpa using hj)) h.2⟩
  have hi:l[i]? =some o:=by have:=hl 0 o (by simp);simpa using this
  have hLz: ∀z,(kP l l.length [z]).contains i=true→L z=false:=fun z hz=>by
   cases hb:L z with
   | false=>rfl
   | true=>
    have hr:=oN o9.shut l.length [z] (fun k hk=>by rw [List.mem_singleton.1 hk];exact hb) i (by simpa using hz)
    rw [hL] at hr
    cases hr
  have hshut: ∀k o',l[k]? =some o'→upd L i true k=true→ ∀j,(dK o').contains j=true→upd L i true j=true:=by
   intro k o' hk hLk j hj
   by_cases hji:j=i
   ·subst hji;exact upd_same _ _ _
   ·rw [upd_ne _ _ hji]
    by_cases hki:k=i
    ·subst hki
     rw [hi] at hk
     obtain rfl:=Option.some.inj hk
     exact lY hd j hj
    ·rw [upd_ne _ _ hki] at hLk
     exact o9.shut k o' hk hLk j hj
  refine h.1 L u T w hL hLz o9.here ⟨fun k d h1 h2=>?_,fun k hk=>hF.out k fun j o' hj he=>?_,fun j k h1 h2=>?_⟩ K fun v w' hS hV=>hK v w' ⟨hshut,hS,fun j hj x hx=>?_⟩
  ·have hk:=lY hd k h1
   obtain ⟨o',ho',hd'⟩:=Option.bind_eq_some_iff.1 h2
   exact ⟨hF.val k o' d (by simpa using ho') hd' hk,hk,o9.vals k hk⟩
  ·have:=List.all_eq_true.1 hk o' (List.mem_of_getElem? (by simpa using hj))
   rw [he] at this
   simp at this
  ·obtain ⟨o',ho',hd'⟩:=Option.bind_eq_some_iff.1 h1
   exact hF.yet j o' k (by simpa using ho') hd' h2
  ·by_cases hji:j=i
   ·subst hji;rw [upd_same];exact hV x hx
   ·rw [upd_ne _ _ hji] at hj⊢
    exact o9.vals j hj x hx
theorem aJ {P:Program} {Q:Exit→Act→World→Prop} {id:Nat} {l:List Oper} {a:Act} {w:World} (S:(Nat→Bool)→(Nat→Value)→World→Prop) (V:Nat→Option Value)
  (hm:P.follows .mixedOrders=true) (hap:apartB l=true)
  (hd:(l.all fun o=>match o.dst with | none=>true | some k=>k<a.tmps.size)=true)
  (kR:(l.zipIdx.all fun oi=>oi.1.after.all fun e=> !Region.binds .any e || e.on<oi.2)=true)
  (h0:S (fun _=>false) (fun _=>undef) {w with drawn:=w.drawn+1})
  (hE:au P l Q a.defers a.tmps S V l 0)
  (hend: ∀L u w',(∀j,j<l.length→L j=true)→S L u w'→(∀j,j<l.length→ ∀x,V j=some x→u j=x)→Q .normal (aK l 0 u a) w'):(Code.region id l.toArray true).wp P Q a w:=
 jm (YF l S V) hm hap hd kR ⟨fun _ _ _ h=>(by cases h),h0,fun _ h=>by cases h⟩ (hE.each l 0 (fun j o hj=>by rw [Nat.zero_add];exact hj))
  fun L u w' hL o9=>hend L u w' hL o9.here fun j hj=>o9.vals j (hL j hj)
end Go.Proofs.YtacfglopionkfaaGreatDoor.Reg2
