import Derived.Test.YtacfglopionkfaaGreatDoorKDe
import Derived.Test.YtacfglopionkfaaGreatDoorKTx
import Derived.Test.YtacfglopionkfaaGreatDoorKEx
namespace Go.Proofs.YtacfglopionkfaaGreatDoor
open Go.RowKit
def WU:List ByteArray:=[⟨#[117,43]⟩,⟨#[117,45]⟩,⟨#[33]⟩,⟨#[126]⟩]
def uo (s:ByteArray):Prop:= ¬s=ak∧fC (bT s)=s.size
def Tr.Ops:Tr→Prop
 | .num n _=>0≤n∧n≤9223372036854775807
 | .name s _=>uo s
 | .un op _ a=>op∈WU∧a.Ops
 | .bin op _ a b=>1≤dO op∧a.Ops∧b.Ops
 | .cond op _ a b c=>op=iE∧a.Ops∧b.Ops∧c.Ops
 | .eF op s _ _ a=>fZ op=true∧op∈aF∧uo s∧a.Ops
theorem bytT {l:List Int} (h:nN l) (j:Nat):nN (l.take j):=fun i=>by
 have:=h i
 simp only [List.getD_eq_getElem?_getD,List.getElem?_take] at this⊢
 split
 ·exact this
 ·simp
theorem aal {l:List Int} (h:nN l) (j:Nat):nN (l.drop j):=fun i=>by
 have:=h (j+i)
 simpa only [List.getD_eq_getElem?_getD,List.getElem?_drop] using this
theorem qH (l:List Int):vY (nameB l) l.length (fC l):=iL _ _
theorem nmN_name {l r:List Int} (h:fC l=l.length) (hr: ∀x m,r=x::m→jh x=false∧(l≠[]→jd x=false)):fC (l++r)=l.length:=by
 have hl:=qH l
 rw [h] at hl
 refine (qH (l++r)).same ⟨by simp,fun j hj=>?_,fun hj=>?_⟩
 ·have:=hl.2.1 j hj
  unfold nameB at this⊢
  rw [List.getD_eq_getElem?_getD,List.getElem?_append_left hj, ←List.getD_eq_getElem?_getD]
  exact this
 ·cases r with
  | nil=>simp at hj
  | cons x m=>
   obtain ⟨h1,h2⟩:=hr x m rfl
   unfold nameB
   have e:(l++x::m).getD l.length 0=x:=by rw [List.getD_eq_getElem?_getD,List.getElem?_append_right (Nat.le_refl _)];simp
   rw [e,h1]
   by_cases hne:l=[]
   ·subst hne;simp
   ·simp [h2 hne]
theorem LG (r:List Int):fC (r.take (fC r))=fC r:=by
 have h:=qH r
 generalize fC r=k at h
 have hlen:(r.take k).length=k:=by rw [List.length_take];have:=h.1;omega
 refine (qH (r.take k)).same ⟨by omega,fun j hj=>?_,fun hj=>by omega⟩
 have:=h.2.1 j hj
 unfold nameB at this⊢
 rw [List.getD_eq_getElem?_getD,List.getElem?_take,if_pos hj, ←List.getD_eq_getElem?_getD]
 exact this
theorem AU (r:List Int) (hb:nN r) (h:0<fC r):uo (dI (r.take (fC r))):=by
 have hle:=(qH r).1
 have hby:nN (r.take (fC r)):=bytT hb _
 refine ⟨fun e=>?_,?_⟩
 ·have:=congrArg ByteArray.size e
  rw [jP,List.length_take] at this
  have:ak.size=0:=rfl
  omega
 ·rw [xH hby,LG,jP,List.length_take]
  omega
structure Tk.Is (t:Tk):Prop where
 lo:0≤t.num
 hi:t.num≤9223372036854775807
 nm:t.kind=3→uo t.text
 op: ¬t.kind=3→t.text=ak∨t.text∈aF
theorem kD (l:List Int) (hb:nN l) (p:Nat):(tok l p).Is:=by
 have hn:=jT l p
 refine ⟨hn.lo,hn.hi,?_,?_⟩
 all_goals
  clear hn
  unfold tok
  generalize ay l p=q
  have hb':nN (l.drop q):=aal hb q
  generalize l.drop q=r at hb'⊢
  unfold gY
  split
  ·intro h;first | (simp at h;done) | exact Or.inl rfl
  ·split
   ·intro h
    first
     | exact AU r hb' (by assumption)
     | exact absurd rfl h
   ·split
    ·intro h;first | (simp at h;done) | exact Or.inl rfl
    ·split
     ·intro h;first | (simp at h;done) | exact (kX _ _).imp id And.left
     ·intro h;first | (simp at h;done) | exact Or.inl rfl
theorem Ed {s:ByteArray} (h:uo s):fZ s=false:=by
 obtain ⟨hne,h⟩:=h
 have hpos:=size_pos hne
 have hlen:=bC s
 have hh:=(qH (bT s)).2.1 (s.size - 1) (by omega)
 unfold fZ
 have:Lib.hasSuffix s.data.toList [61]=false:=by
  rw [Bool.eq_false_iff]
  intro hc
  have hsuf:[61]<:+s.data.toList:=by simpa [Lib.hasSuffix] using hc
  obtain ⟨y,hy⟩:=hsuf
  have hb:bT s=y.map (fun c=>(c.toNat:Int))++[61]:=by
   show s.data.toList.map _=_
   rw [←hy];simp
  have hy':y.length=s.size - 1:=by
   have:=congrArg List.length hb
   simp at this
   omega
  unfold nameB at hh
  rw [hb,List.getD_eq_getElem?_getD,List.getElem?_append_right (by simp;omega)] at hh
  simp [hy',jh,jd] at hh
 rw [this,Bool.and_false]
theorem kQ {s:ByteArray} {L:List ByteArray} (h: ∃x∈L,x=s):s∈L:=by
 obtain ⟨x,hx,e⟩:=h
 rw [←e]
 exact hx
theorem Oz {s:ByteArray} (h: ¬jo s=ak):jo s∈WU:=by
 unfold jo at h⊢
 split
 ·rename_i c
  rcases c with rfl | rfl<;>exact kQ (by decide)
 ·rename_i c
  rw [if_neg c] at h
  split
  ·rename_i d
   rcases d with rfl | rfl<;>exact kQ (by decide)
  ·rename_i d
   rw [if_neg d] at h
   exact absurd rfl h
def Md.LOps:Md→Prop
 | .loop _ t=>t.Ops
 | _=>True
theorem jU (l:List Int) (hb:nN l): ∀(n:Nat) (md:Md) (t:Tk),t.Is→md.Ok→md.LOps→ ∀e t',rd l n md t=some (.ok e t')→e.Ops∧t'.Is
 | 0,md,t,_,_,_,e,t',h=>by cases md<;>simp [rd] at h
 | n +1,.expr,t,ht,_,_,e,t',h=>by
  simp only [rd] at h
  by_cases c:t.kind=3∧fZ (tok l t.stop).text=true
  ·rw [if_pos c] at h
   generalize hx:rd l n .expr (tok l (tok l t.stop).stop)=x at h
   match x,hx,h with
   | some (.ok a t1),hx,h=>
    simp only [Option.some.injEq,Rs.ok.injEq] at h
    obtain ⟨rfl,rfl⟩:=h
    obtain ⟨ha,h1⟩:=jU l hb n .expr _ (kD _ hb _) trivial trivial _ _ hx
    have hop:(tok l t.stop).text∈aF:=by
     have hi:=kD l hb t.stop
     by_cases hk:(tok l t.stop).kind=3
     ·exact absurd c.2 (by rw [Ed (hi.nm hk)];decide)
     ·rcases hi.op hk with he | he
      ·exact absurd c.2 (by rw [he];decide)
      ·exact he
    exact ⟨⟨c.2,hop,ht.nm c.1,ha⟩,h1⟩
  ·rw [if_neg c] at h
   exact jU l hb n .cond t ht trivial trivial _ _ h
 | n + 1,.cond,t,ht,_,_,e,t',h=>by
  simp only [rd] at h
  generalize hx:rd l n (.bin 1) t=x at h
  match x,hx,h with
  | some (.ok a t1),hx,h=>
   obtain ⟨ha,h1⟩:=jU l hb n (.bin 1) t ht (Nat.le_refl 1) trivial _ _ hx
   simp only [] at h
   by_cases c:t1.text=iE
   ·rw [if_pos c] at h
    generalize hy:rd l n .expr (tok l t1.stop)=y at h
    match y,hy,h with
    | some (.ok b t2),hy,h=>
     obtain ⟨hb0,h2⟩:=jU l hb n .expr _ (kD _ hb _) trivial trivial _ _ hy
     simp only [] at h
     by_cases d:t2.text=o8
     ·rw [if_pos d] at h
      generalize hz:rd l n .cond (tok l t2.stop)=z at h
      match z,hz,h with
      | some (.ok f t3),hz,h=>
       obtain ⟨hf,h3⟩:=jU l hb n .cond _ (kD _ hb _) trivial trivial _ _ hz
       simp only [Option.some.injEq,Rs.ok.injEq] at h
       obtain ⟨rfl,rfl⟩:=h
       exact ⟨⟨c,ha,hb0,hf⟩,h3⟩
     ·rw [if_neg d] at h
      simp [refuse] at h
   ·rw [if_neg c] at h
    simp only [Option.some.injEq,Rs.ok.injEq] at h
    obtain ⟨rfl,rfl⟩:=h
    exact ⟨ha,h1⟩
 | n+1,.bin k,t,ht,hk,_,e,t',h=>by
  simp only [rd] at h
  generalize hx:rd l n .iR t=x at h
  match x,hx,h with
  | some (.ok a t1),hx,h=>
   obtain ⟨ha,h1⟩:=jU l hb n .iR t ht trivial trivial _ _ hx
   exact jU l hb n (.loop k a) t1 h1 hk ha _ _ h
 | n+1,.loop k left,t,ht,hk,hl,e,t',h=>by
  simp only [rd] at h
  by_cases c:k≤dO t.text
  ·rw [if_pos c] at h
   generalize hx:rd l n (.bin (dO t.text+1)) (tok l t.stop)=x at h
   match x,hx,h with
   | some (.ok b t2),hx,h=>
    obtain ⟨hb0,h2⟩:=jU l hb n (.bin (dO t.text+1)) _ (kD _ hb _) (Nat.le_add_left 1 _) trivial _ _ hx
    exact jU l hb n (.loop k (.bin t.text t.start left b)) t2 h2 hk ⟨Nat.le_trans hk c,hl,hb0⟩ _ _ h
  ·rw [if_neg c] at h
   simp only [Option.some.injEq,Rs.ok.injEq] at h
   obtain ⟨rfl,rfl⟩:=h
   exact ⟨hl,ht⟩
 | n +1,.iR,t,ht,_,_,e,t',h=>by
  simp only [rd] at h
  by_cases c2:t.kind=2
  ·rw [if_pos c2] at h
   by_cases co:t.over=true
   ·rw [if_pos co] at h;simp [refuse] at h
   ·rw [if_neg co] at h
    by_cases cg:gG l t.stop=true
    ·rw [if_pos cg] at h;simp at h
    ·rw [if_neg cg] at h
     simp only [Option.some.injEq,Rs.ok.injEq] at h
     obtain ⟨rfl,rfl⟩:=h
     exact ⟨⟨ht.lo,ht.hi⟩,kD _ hb _⟩
  rw [if_neg c2] at h
  by_cases c3:t.kind=3
  ·rw [if_pos c3] at h
   simp only [Option.some.injEq,Rs.ok.injEq] at h
   obtain ⟨rfl,rfl⟩:=h
   exact ⟨ht.nm c3,kD _ hb _⟩
  rw [if_neg c3] at h
  by_cases cu: ¬jo t.text=ak
  ·rw [if_pos cu] at h
   generalize hx:rd l n .iR (tok l t.stop)=x at h
   match x,hx,h with
   | some (.ok a t1),hx,h=>
    simp only [Option.some.injEq,Rs.ok.injEq] at h
    obtain ⟨rfl,rfl⟩:=h
    obtain ⟨ha,h1⟩:=jU l hb n .iR _ (kD _ hb _) trivial trivial _ _ hx
    exact ⟨⟨Oz cu,ha⟩,h1⟩
  rw [if_neg cu] at h
  by_cases cp:t.text=jy
  ·rw [if_pos cp] at h
   generalize hx:rd l n .expr (tok l t.stop)=x at h
   match x,hx,h with
   | some (.ok a t1),hx,h=>
    obtain ⟨ha,h1⟩:=jU l hb n .expr _ (kD _ hb _) trivial trivial _ _ hx
    simp only [] at h
    by_cases cs:t1.text=jw
    ·rw [if_pos cs] at h
     simp only [Option.some.injEq,Rs.ok.injEq] at h
     obtain ⟨rfl,rfl⟩:=h
     exact ⟨ha,kD _ hb _⟩
    ·rw [if_neg cs] at h
     simp [refuse] at h
  ·rw [if_neg cp] at h
   simp [refuse] at h
theorem pV {l:List Int} (hb:nN l) {n:Nat} {e:Tr} {t:Tk} (h:cZ l n=some (.ok e t)):e.Ops:=by
 unfold cZ at h
 by_cases c:1024<l.length
 ·rw [if_pos c] at h;simp at h
 ·rw [if_neg c] at h
  unfold mF at h
  generalize hx:rd l n .expr (tok l 0)=x at h
  match x,hx,h with
  | some (.ok a t1),hx,h=>
   obtain ⟨ha,-⟩:=jU l hb n .expr _ (kD _ hb _) trivial trivial _ _ hx
   simp only [] at h
   by_cases c:t1.kind=0
   ·rw [if_pos c] at h
    simp only [Option.some.injEq,Rs.ok.injEq] at h
    obtain ⟨rfl,rfl⟩:=h
    exact ha
   ·rw [if_neg c] at h
    simp [refuse] at h
def Fst (x:Int):Prop:=(48≤x∧x≤57)∨jh x=true∨x=40
theorem Fst.white {x:Int} (h:Fst x):bM x=false:=by
 unfold Fst jh at h
 unfold bM
 simp at h⊢
 omega
theorem Fst.op {x:Int} (h:Fst x):0≤x∧x≤255∧x≠61∧x≠60∧x≠62∧x≠38∧x≠124:=by
 unfold Fst jh at h
 simp at h
 omega
theorem ZI {s:ByteArray} (h:uo s): ∃x m,bT s=x::m∧jh x=true:=by
 obtain ⟨hne,h⟩:=h
 have hpos:=size_pos hne
 have hlen:=bC s
 have hh:=(qH (bT s)).2.1 0 (by omega)
 match hb:bT s with
 | []=>rw [hb] at hlen;simp at hlen;omega
 | x::m=>
  rw [hb] at hh
  refine ⟨x,m,rfl,?_⟩
  simpa [nameB] using hh
theorem QT {s:ByteArray} (h:uo s) (r:List Int): ∀x m,bT s++r=x::m→bM x=false:=by
 obtain ⟨x,m,e,hf⟩:=ZI h
 rw [e]
 intro x' m' e'
 simp only [List.cons_append,List.cons.injEq] at e'
 rw [←e'.1]
 exact Fst.white (Or.inr (Or.inl hf))
theorem Xz {s:ByteArray} (h:uo s) (r:List Int) (hr:Ends r) (q:Nat):gY (bT s++r) q=⟨3,q,q+s.size,s,0,false⟩:=by
 have hpos:=size_pos h.1
 have hlen:=bC s
 have hn:fC (bT s++r)=s.size:=by
  rw [nmN_name (by rw [h.2,hlen]) (fun x m e=>⟨(hr x m e).2,fun _=>(hr x m e).1⟩),hlen]
 rw [zo (by simp;omega) (by omega),hn]
 congr 1
 rw [←hlen,List.take_left]
 exact Dw s
theorem op_at {s:ByteArray} (h:s∈aF): ∃i,i<35∧aF.getD i ak=s:=by
 obtain ⟨i,hi,e⟩:=List.mem_iff_getElem.1 h
 exact ⟨i,hi,by rw [List.getD_eq_getElem?_getD,List.getElem?_eq_getElem hi];exact e⟩
theorem tokL_opS {s:ByteArray} (h:s∈aF) (r:List Int) (hr:zB r) (q:Nat):gY (bT s++r) q=⟨4,q,q+s.size,s,0,false⟩:=by
 obtain ⟨i,hi,rfl⟩:=op_at h
 exact tokL_op i hi r hr q
theorem U8 {s:ByteArray} (h:s∈aF) (r:List Int):Ends (bT s++r):=by
 obtain ⟨i,hi,rfl⟩:=op_at h
 exact op_ends i hi r
theorem opS_solid {s:ByteArray} (h:s∈aF) (r:List Int): ∀x m,bT s++r=x::m→bM x=false:=by
 obtain ⟨i,hi,rfl⟩:=op_at h
 exact op_solid i hi r
theorem row_mem (s:ByteArray): ∀(R:List (List ByteArray)) (k:Nat),0<rowFrom s R k→s∈R.flatten
 | [],_,h=>by simp [rowFrom] at h
 | r::rs,k,h=>by
  unfold rowFrom at h
  by_cases c:r.any (fun x=>decide (x=s))=true
  ·obtain ⟨x,hx,e⟩:=List.any_eq_true.1 c
   simp only [decide_eq_true_eq] at e
   subst e
   simp [hx]
  ·rw [if_neg c] at h
   have:=row_mem s rs (k+1) h
   simp only [List.flatten_cons,List.mem_append]
   exact Or.inr this
theorem bin_facts: ∀s∈bG.flatten,(∃x∈aF,x=s)∧fZ s=false∧ ¬s=iE:=by decide
theorem str_mem {s:ByteArray} (h:1≤dO s):s∈aF∧fZ s=false∧ ¬s=iE:=by
 obtain ⟨a,b⟩:=bin_facts s (row_mem s bG 0 h)
 exact ⟨kQ a,b⟩
def Shut (s:ByteArray):Prop:=fZ s=false∧dO s=0∧ ¬s=iE
def yB (L:List Int) (md:Md) (t:Tk) (e:Tr) (t':Tk):Prop:= ∃n,∀k,rd L (n+k) md t=some (.ok e t')
theorem yB.bin0 {L:List Int} {t t':Tk} {a:Tr} {m:Nat} (h:yB L .iR t a t') (hs:dO t'.text<m):yB L (.bin m) t a t':=by
 obtain ⟨n,hn⟩:=h
 refine ⟨n+2,fun k=>?_⟩
 rw [show n+2+k=(n+k+1)+1 by omega,bin_of (n:=n+k+1) (by rw [show n+k+1=n+(k+1) by omega];exact hn _),WS (by omega)]
theorem yB.cond0 {L:List Int} {t t':Tk} {a:Tr} (h:yB L (.bin 1) t a t') (hq: ¬t'.text=iE):yB L .cond t a t':=by
 obtain ⟨n,hn⟩:=h
 refine ⟨n+1,fun k=>?_⟩
 rw [show n+1+k=(n+k)+1 by omega,cond_of (hn k) hq]
theorem yB.expr0 {L:List Int} {t t':Tk} {a:Tr} (h:yB L .cond t a t') (hq: ¬(t.kind=3∧fZ (tok L t.stop).text=true)):yB L .expr t a t':=by
 obtain ⟨n,hn⟩:=h
 refine ⟨n+1,fun k=>?_⟩
 rw [show n+1+k=(n+k)+1 by omega]
 simp only [rd]
 rw [if_neg hq]
 exact hn k
theorem yB.all {L:List Int} {t t':Tk} {a:Tr} (h:yB L .iR t a t') (hs:Shut t'.text) (hk:t.kind=3→tok L t.stop=t'):yB L .expr t a t':=
 ((h.bin0 (by rw [hs.2.1];decide)).cond0 hs.2.2).expr0 fun hh=>by
  rw [hk hh.1] at hh
  exact absurd hh.2 (by rw [hs.1];decide)
theorem yB.binOf {L:List Int} {t t1 t2:Tk} {a b:Tr} (h:yB L .iR t a t1) (hs:1≤dO t1.text) (h2:yB L .iR (tok L t1.stop) b t2) (hz:dO t2.text=0):yB L (.bin 1) t (.bin t1.text t1.start a b) t2:=by
 obtain ⟨n,hn⟩:=h
 obtain ⟨m,hm⟩:=h2.bin0 (m:=dO t1.text+1) (by omega)
 refine ⟨n+m+3,fun k=>?_⟩
 rw [show n+m+3+k=(n+m+k+2)+1 by omega,bin_of (by rw [show n+m+k+2=n+(m+k+2) by omega];exact hn _)]
 rw [show n+m+k+2=(n+m+k+1)+1 by omega,loop_go hs (by rw [show n+m+k+1=m+(n+k+1) by omega];exact hm _)]
 rw [WS (by omega)]
theorem yB.asgOf {L:List Int} {t t2:Tk} {a:Tr} (hk:t.kind=3) (ha:fZ (tok L t.stop).text=true) (h:yB L .expr (tok L (tok L t.stop).stop) a t2):yB L .expr t (.eF (tok L t.stop).text t.text t.start (tok L t.stop).start a) t2:=by
 obtain ⟨n,hn⟩:=h
 refine ⟨n+1,fun k=>?_⟩
 rw [show n+1+k=(n+k)+1 by omega]
 simp only [rd]
 rw [if_pos ⟨hk,ha⟩,hn k]
theorem yB.parOf {L:List Int} {t t2:Tk} {a:Tr} (hk:t.kind=4) (ht:t.text=jy) (h:yB L .expr (tok L t.stop) a t2) (hs:t2.text=jw):yB L .iR t a (tok L t2.stop):=by
 obtain ⟨n,hn⟩:=h
 refine ⟨n+1,fun k=>?_⟩
 rw [show n+1+k=(n+k)+1 by omega]
 simp only [rd]
 rw [if_neg (by rw [hk];decide),if_neg (by rw [hk];decide),if_neg (by rw [ht];decide),if_pos ht,hn k]
 simp only []
 rw [if_pos hs]
theorem solid_of {x:Int} (m:List Int) (h:bM x=false): ∀x' m',x::m=x'::m'→bM x'=false:=by
 intro x' m' e
 simp only [List.cons.injEq] at e
 rw [←e.1]
 exact h
theorem MH {L y r:List Int} (hL:L=y++r) (h: ∀c m,r=c::m→bM c=false):tok L y.length=gY r y.length:=by rw [hL];exact tok_here y r h
theorem U1 {L y r:List Int} {s:ByteArray} (hs:s∈aF) (hL:L=y++(bT s++r)) (hr:zB r):tok L y.length=⟨4,y.length,y.length+s.size,s,0,false⟩:=by
 rw [MH hL (opS_solid hs _),tokL_opS hs r hr]
def aaC (n:Nat):Tk:=⟨4,n,n+1,jw,0,false⟩
def JX (n:Nat) (t t':Tk):Prop:=(t'=t∧ ¬t.kind=0)∨(t.kind=0∧t.text=ak∧t'=aaC n)
theorem yM (l m:List Int) (q:Nat) (h:q≤l.length):JX l.length (tok l q) (tok (l++41::m) q):=by
 have hsk:=bJ l q h
 by_cases hs:ay l q<l.length
 ·left
  refine ⟨tok_appB l m 41 rfl q h (by unfold tok;rw [sU];exact hs),?_⟩
  exact tokL_kind (by rw [List.length_drop];omega)
 ·right
  have e:ay l q=l.length:=by omega
  have e0:tok l q=⟨0,l.length,l.length,ak,0,false⟩:=by
   unfold tok
   rw [e,List.drop_length]
   rfl
  have e1:pre bM (l.drop q)=(l.drop q).length:=by
   unfold ay at e
   rw [List.length_drop]
   omega
  have e2:ay (l++41::m) q=l.length:=by
   unfold ay
   rw [Qi h,pre_all _ _ _ e1,List.length_drop]
   have:pre bM (41::m)=0:=by simp [pre,bM]
   omega
  refine ⟨by rw [e0],by rw [e0],?_⟩
  unfold tok
  rw [e2,show (l++41::m).drop l.length=41::m by rw [List.drop_left],Vj 41 (Or.inr rfl)]
  rfl
theorem JX.eF {n:Nat} {t t':Tk} (h:JX n t t'):fZ t'.text=fZ t.text:=by
 rcases h with ⟨rfl,_⟩ | ⟨_,h2,rfl⟩
 ·rfl
 ·rw [h2];show fZ jw=fZ ak;decide
theorem JX.str {n:Nat} {t t':Tk} (h:JX n t t'):dO t'.text=dO t.text:=by
 rcases h with ⟨rfl,_⟩ | ⟨_,h2,rfl⟩
 ·rfl
 ·rw [h2];show dO jw=dO ak;decide
theorem JX.same {n:Nat} {t t':Tk} (h:JX n t t') (hx: ¬t.text=ak):t'=t:=by
 rcases h with ⟨rfl,_⟩ | ⟨_,h2,_⟩
 ·rfl
 ·exact absurd h2 hx
theorem JX.not {n:Nat} {t t':Tk} (h:JX n t t') {s:ByteArray} (hs:s≠jw) (hx: ¬t.text=s): ¬t'.text=s:=by
 rcases h with ⟨rfl,_⟩ | ⟨_,_,rfl⟩
 ·exact hx
 ·exact fun h=>hs h.symm
theorem uQ (l m:List Int): ∀(n:Nat) (md:Md) (t t':Tk),JX l.length t t'→md.Ok→t.Lies l→ ∀e t1,rd l n md t=some (.ok e t1)→ ∃t1',rd (l++41::m) n md t'=some (.ok e t1')∧JX l.length t1 t1'
 | 0,md,t,t',_,_,_,e,t1,h=>by cases md<;>simp [rd] at h
 | n+1,.expr,t,t',ht,_,hl,e,t1,h=>by
  rcases ht with ⟨rfl,hk⟩ | ⟨hk,hx,rfl⟩
  rotate_left
  ·exact absurd h ((RZ l t hk hx (n+1)).2.2.2 e t1)
  have hu:=yM l m _ hl.2
  have lu:=iI l _ hl.2
  simp only [rd] at h⊢
  rw [hu.eF]
  by_cases c:t'.kind=3∧fZ (tok l t'.stop).text=true
  ·rw [if_pos c] at h⊢
   have hs:=hu.same (og c.2)
   rw [hs]
   have h2:=yM l m _ lu.2
   generalize hx:rd l n .expr (tok l (tok l t'.stop).stop)=y at h
   match y,hx,h with
   | none,_,h=>simp at h
   | some (.bad _ _),_,h=>simp at h
   | some (.ok a t2),hx,h=>
    obtain ⟨t2',hr,hlk⟩:=uQ l m n .expr _ _ h2 trivial (iI l _ lu.2) _ _ hx
    simp only [Option.some.injEq,Rs.ok.injEq] at h
    obtain ⟨rfl,rfl⟩:=h
    rw [hr]
    exact ⟨t2',rfl,hlk⟩
  ·rw [if_neg c] at h⊢
   exact uQ l m n .cond t' t' (Or.inl ⟨rfl,hk⟩) trivial hl e t1 h
 | n + 1,.cond,t,t',ht,_,hl,e,t1,h=>by
  rcases ht with ⟨rfl,hk⟩ | ⟨hk,hx,rfl⟩
  rotate_left
  ·exact absurd h ((RZ l t hk hx (n+1)).2.2.1 e t1)
  simp only [rd] at h⊢
  generalize hx:rd l n (.bin 1) t'=y at h
  match y,hx,h with
  | none,_,h=>simp at h
  | some (.bad _ _),_,h=>simp at h
  | some (.ok a u),hx,h=>
   have lu:u.Lies l:=mg l n (.bin 1) t' hl _ hx
   obtain ⟨u',hr,hu⟩:=uQ l m n (.bin 1) t' t' (Or.inl ⟨rfl,hk⟩) (Nat.le_refl 1) hl _ _ hx
   rw [hr]
   simp only [] at h⊢
   by_cases c:u.text=iE
   ·have hs:=hu.same (by rw [c];decide)
    subst hs
    rw [if_pos c] at h⊢
    have h2:=yM l m _ lu.2
    generalize hy:rd l n .expr (tok l u'.stop)=z at h
    match z,hy,h with
    | none,_,h=>simp at h
    | some (.bad _ _),_,h=>simp at h
    | some (.ok b v),hy,h=>
     have lv:v.Lies l:=mg l n .expr _ (iI l _ lu.2) _ hy
     obtain ⟨v',hr2,hv⟩:=uQ l m n .expr _ _ h2 trivial (iI l _ lu.2) _ _ hy
     rw [hr2]
     simp only [] at h⊢
     by_cases d:v.text=o8
     ·have hs:=hv.same (by rw [d];decide)
      subst hs
      rw [if_pos d] at h⊢
      have h3:=yM l m _ lv.2
      generalize hz:rd l n .cond (tok l v'.stop)=o at h
      match o,hz,h with
      | none,_,h=>simp at h
      | some (.bad _ _),_,h=>simp at h
      | some (.ok f q),hz,h=>
       obtain ⟨q',hr3,hq⟩:=uQ l m n .cond _ _ h3 trivial (iI l _ lv.2) _ _ hz
       rw [hr3]
       simp only [Option.some.injEq,Rs.ok.injEq] at h
       obtain ⟨rfl,rfl⟩:=h
       exact ⟨q',rfl,hq⟩
     ·rw [if_neg d] at h
      simp [refuse] at h
   ·rw [if_neg c] at h
    rw [if_neg (hu.not (by decide) c)]
    simp only [Option.some.injEq,Rs.ok.injEq] at h
    obtain ⟨rfl,rfl⟩:=h
    exact ⟨u',rfl,hu⟩
 | n+1,.bin k,t,t',ht,ho,hl,e,t1,h=>by
  rcases ht with ⟨rfl,hk⟩ | ⟨hk,hx,rfl⟩
  rotate_left
  ·exact absurd h ((RZ l t hk hx (n+1)).2.1 k e t1)
  simp only [rd] at h⊢
  generalize hx:rd l n .iR t'=y at h
  match y,hx,h with
  | none,_,h=>simp at h
  | some (.bad _ _),_,h=>simp at h
  | some (.ok a u),hx,h=>
   have lu:u.Lies l:=mg l n .iR t' hl _ hx
   obtain ⟨u',hr,hu⟩:=uQ l m n .iR t' t' (Or.inl ⟨rfl,hk⟩) trivial hl _ _ hx
   rw [hr]
   exact uQ l m n (.loop k a) u u' hu ho lu e t1 h
 | n+1,.loop k left,t,t',ht,ho,hl,e,t1,h=>by
  simp only [rd] at h⊢
  rw [ht.str]
  by_cases c:k≤dO t.text
  ·have hs:=ht.same (oK ho c)
   subst hs
   rw [if_pos c] at h⊢
   have h2:=yM l m _ hl.2
   generalize hx:rd l n (.bin (dO t'.text+1)) (tok l t'.stop)=y at h
   match y,hx,h with
   | none,_,h=>simp at h
   | some (.bad _ _),_,h=>simp at h
   | some (.ok b u),hx,h=>
    have lu:u.Lies l:=mg l n _ _ (iI l _ hl.2) _ hx
    obtain ⟨u',hr,hu⟩:=uQ l m n _ _ _ h2 (Nat.le_add_left 1 _) (iI l _ hl.2) _ _ hx
    rw [hr]
    exact uQ l m n (.loop k (.bin t'.text t'.start left b)) u u' hu ho lu e t1 h
  ·rw [if_neg c] at h⊢
   simp only [Option.some.injEq,Rs.ok.injEq] at h
   obtain ⟨rfl,rfl⟩:=h
   exact ⟨t',rfl,ht⟩
 | n +1,.iR,t,t',ht,_,hl,e,t1,h=>by
  rcases ht with ⟨rfl,hk⟩ | ⟨hk,hx,rfl⟩
  rotate_left
  ·exact absurd h ((RZ l t hk hx (n+1)).1 e t1)
  have hu:=yM l m _ hl.2
  have lu:=iI l _ hl.2
  simp only [rd] at h⊢
  rw [aaZ l m 41 rfl _ hl.2]
  by_cases c2:t'.kind=2
  ·rw [if_pos c2] at h⊢
   by_cases co:t'.over=true
   ·rw [if_pos co] at h;simp [refuse] at h
   ·rw [if_neg co] at h⊢
    by_cases cg:gG l t'.stop=true
    ·rw [if_pos cg] at h;simp at h
    ·rw [if_neg cg] at h⊢
     simp only [Option.some.injEq,Rs.ok.injEq] at h
     obtain ⟨rfl,rfl⟩:=h
     exact ⟨_,rfl,hu⟩
  rw [if_neg c2] at h⊢
  by_cases c3:t'.kind=3
  ·rw [if_pos c3] at h⊢
   simp only [Option.some.injEq,Rs.ok.injEq] at h
   obtain ⟨rfl,rfl⟩:=h
   exact ⟨_,rfl,hu⟩
  rw [if_neg c3] at h⊢
  by_cases cu: ¬jo t'.text=ak
  ·rw [if_pos cu] at h⊢
   generalize hx:rd l n .iR (tok l t'.stop)=y at h
   match y,hx,h with
   | none,_,h=>simp at h
   | some (.bad _ _),_,h=>simp at h
   | some (.ok a u),hx,h=>
    obtain ⟨u',hr,hlk⟩:=uQ l m n .iR _ _ hu trivial lu _ _ hx
    simp only [Option.some.injEq,Rs.ok.injEq] at h
    obtain ⟨rfl,rfl⟩:=h
    rw [hr]
    exact ⟨u',rfl,hlk⟩
  rw [if_neg cu] at h⊢
  by_cases cp:t'.text=jy
  ·rw [if_pos cp] at h⊢
   generalize hx:rd l n .expr (tok l t'.stop)=y at h
   match y,hx,h with
   | none,_,h=>simp at h
   | some (.bad _ _),_,h=>simp at h
   | some (.ok a u),hx,h=>
    have lv:u.Lies l:=mg l n .expr _ lu _ hx
    obtain ⟨u',hr,hv⟩:=uQ l m n .expr _ _ hu trivial lu _ _ hx
    rw [hr]
    simp only [] at h⊢
    by_cases cs:u.text=jw
    ·have hs:=hv.same (by rw [cs];decide)
     subst hs
     rw [if_pos cs] at h⊢
     simp only [Option.some.injEq,Rs.ok.injEq] at h
     obtain ⟨rfl,rfl⟩:=h
     exact ⟨_,rfl,yM l m _ lv.2⟩
    ·rw [if_neg cs] at h
     simp [refuse] at h
  ·rw [if_neg cp] at h
   simp [refuse] at h
theorem yj (l:List Int): ∀(n:Nat) (md:Md) (t:Tk) (r:Rs),rd l n md t=some r→rd l (n+1) md t=some r
 | 0,md,t,r,h=>by cases md<;>simp [rd] at h
 | n+1,.expr,t,r,h=>by
  rw [rd] at h⊢
  split
  ·rename_i c
   rw [if_pos c] at h
   cases hx:rd l n .expr (tok l (tok l t.stop).stop) with
   | none=>rw [hx] at h;cases h
   | some y=>rw [hx] at h;rw [yj l n _ _ _ hx];exact h
  ·rename_i c
   rw [if_neg c] at h
   exact yj l n _ _ _ h
 | n + 1,.cond,t,r,h=>by
  rw [rd] at h⊢
  cases hx:rd l n (.bin 1) t with
  | none=>rw [hx] at h;cases h
  | some y=>
   rw [hx] at h
   rw [yj l n _ _ _ hx]
   cases y with
   | bad c p=>exact h
   | ok a t1=>
    simp only [] at h⊢
    split
    ·rename_i c
     rw [if_pos c] at h
     cases hy:rd l n .expr (tok l t1.stop) with
     | none=>rw [hy] at h;cases h
     | some z=>
      rw [hy] at h
      rw [yj l n _ _ _ hy]
      cases z with
      | bad c p=>exact h
      | ok b t2=>
       simp only [] at h⊢
       split
       ·rename_i d
        rw [if_pos d] at h
        cases hz:rd l n .cond (tok l t2.stop) with
        | none=>rw [hz] at h;cases h
        | some u=>rw [hz] at h;rw [yj l n _ _ _ hz];exact h
       ·rename_i d
        rw [if_neg d] at h
        exact h
    ·rename_i c
     rw [if_neg c] at h
     exact h
 | n+1,.bin k,t,r,h=>by
  rw [rd] at h⊢
  cases hx:rd l n .iR t with
  | none=>rw [hx] at h;cases h
  | some y=>
   rw [hx] at h
   rw [yj l n _ _ _ hx]
   cases y with
   | bad c p=>exact h
   | ok a t1=>exact yj l n _ _ _ h
 | n+1,.loop k left,t,r,h=>by
  rw [rd] at h⊢
  split
  ·rename_i c
   rw [if_pos c] at h
   cases hx:rd l n (.bin (dO t.text+1)) (tok l t.stop) with
   | none=>rw [hx] at h;cases h
   | some y=>
    rw [hx] at h
    rw [yj l n _ _ _ hx]
    cases y with
    | bad c p=>exact h
    | ok a t1=>exact yj l n _ _ _ h
  ·rename_i c
   rw [if_neg c] at h
   exact h
 | n+1,.iR,t,r,h=>by
  rw [rd] at h⊢
  split
  ·rename_i c;rw [if_pos c] at h;exact h
  rename_i c
  rw [if_neg c] at h
  split
  ·rename_i c;rw [if_pos c] at h;exact h
  rename_i c
  rw [if_neg c] at h
  split
  ·rename_i c
   rw [if_pos c] at h
   cases hx:rd l n .iR (tok l t.stop) with
   | none=>rw [hx] at h;cases h
   | some y=>rw [hx] at h;rw [yj l n _ _ _ hx];exact h
  rename_i c
  rw [if_neg c] at h
  split
  ·rename_i c
   rw [if_pos c] at h
   cases hx:rd l n .expr (tok l t.stop) with
   | none=>rw [hx] at h;cases h
   | some y=>rw [hx] at h;rw [yj l n _ _ _ hx];exact h
  ·rename_i c
   rw [if_neg c] at h
   exact h
theorem rd_more (l:List Int) (n:Nat) (md:Md) (t:Tk) (r:Rs) (h:rd l n md t=some r): ∀k,rd l (n+k) md t=some r
 | 0=>h
 | k+1=>yj l (n+k) md t r (rd_more l n md t r h k)
theorem par_any {b L y r:List Int} {n:Nat} {e:Tr} {t:Tk} (h:cZ b n=some (.ok e t)) (hL:L=y++(40::(b++(41::r)))):
  tok L y.length=⟨4,y.length,y.length+1,jy,0,false⟩∧yB L .iR (tok L y.length) (e.sh (y.length+1)) (tok L (y.length+(b.length+2))):=by
 unfold cZ at h
 by_cases hl:1024<b.length
 ·rw [if_pos hl] at h;simp at h
 rw [if_neg hl] at h
 unfold mF at h
 generalize hx:rd b n .expr (tok b 0)=x at h
 match x,hx,h with
 | none,_,h=>simp at h
 | some (.bad _ _),_,h=>simp at h
 | some (.ok a t1),hx,h=>
  simp only [] at h
  by_cases ck:t1.kind=0
  rotate_left
  ·rw [if_neg ck] at h;simp [refuse] at h
  rw [if_pos ck] at h
  simp only [Option.some.injEq,Rs.ok.injEq] at h
  obtain ⟨rfl,rfl⟩:=h
  obtain ⟨t',hr,hlk⟩:=uQ b r n .expr _ _ (yM b r 0 (Nat.zero_le _)) trivial (iI b 0 (Nat.zero_le _)) _ _ hx
  have ht':t'=aaC b.length:=by
   rcases hlk with ⟨_,h2⟩ | ⟨_,_,h3⟩
   ·exact absurd ck h2
   ·exact h3
  subst ht'
  have hL2:L=(y++[40])++(b++41::r):=by rw [hL];simp
  have hyl:(y++[40]).length=y.length+1:=by simp
  have T0:tok L y.length=⟨4,y.length,y.length+1,jy,0,false⟩:=by
   rw [MH hL (solid_of _ (by decide)),Vj 40 (Or.inl rfl)]
   rfl
  refine ⟨T0,?_⟩
  have hs:yB L .expr (tok L (y.length+1)) (a.sh (y.length+1)) ((aaC b.length).sh (y.length+1)):=by
   refine ⟨n,fun k=>rd_more L n _ _ _ ?_ k⟩
   have h1:rd ((y++[40])++(b++41::r)) n .expr ((tok (b++41::r) 0).sh (y++[40]).length)=_:=Jo (y++[40]) (b++41::r) n .expr (tok (b++41::r) 0)
   have h2:tok ((y++[40])++(b++41::r)) ((y++[40]).length+0)=(tok (b++41::r) 0).sh (y++[40]).length:=J4 (y++[40]) (b++41::r) 0
   rw [←hL2,Nat.add_zero] at h2
   rw [←hL2, ←h2,hr,hyl] at h1
   exact h1
  rw [T0]
  have:=yB.parOf (t:=⟨4,y.length,y.length+1,jy,0,false⟩) rfl rfl hs rfl
  rw [show y.length+(b.length+2)=y.length+1+(b.length+1) by omega]
  exact this
end Go.Proofs.YtacfglopionkfaaGreatDoor
