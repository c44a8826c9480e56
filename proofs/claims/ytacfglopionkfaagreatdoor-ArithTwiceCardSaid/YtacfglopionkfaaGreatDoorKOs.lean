import Derived.Test.YtacfglopionkfaaGreatDoorKTx
namespace Go.Proofs.YtacfglopionkfaaGreatDoor
open Go.RowKit
def WU:List ByteArray:=[⟨#[117,43]⟩,⟨#[117,45]⟩,⟨#[33]⟩,⟨#[126]⟩]
def uo (s:ByteArray):Prop:= ¬s=ak∧fC (bT s)=s.size
def Tr.Ops:Tr→Prop
 | .num n _=>0≤n∧n≤9223372036854775807
 | .name s _=>uo s
 | .un op _ a=>op∈WU∧a.Ops
 | .bin op _ a b=>1≤dO op∧a.Ops∧b.Ops
 | .cond op _ a b c=>op=iE∧a.Ops∧b.Ops∧c.Ops
 | .eF op s _ _ a=>fZ op=true∧op∈aF∧uo s∧a.Ops
theorem bytT {l:List Int} (h:nN l) (j:Nat):nN (l.take j):=fun i=>by
 have:=h i
 simp only [List.getD_eq_getElem?_getD,List.getElem?_take] at this⊢
 split
 ·exact this
 ·simp
theorem aal {l:List Int} (h:nN l) (j:Nat):nN (l.drop j):=fun i=>by
 have:=h (j+i)
 simpa only [List.getD_eq_getElem?_getD,List.getElem?_drop] using this
theorem qH (l:List Int):vY (nameB l) l.length (fC l):=iL _ _
theorem LG (r:List Int):fC (r.take (fC r))=fC r:=by
 have h:=qH r
 generalize fC r=k at h
 have hlen:(r.take k).length=k:=by rw [List.length_take];have:=h.1;omega
 refine (qH (r.take k)).same ⟨by omega,fun j hj=>?_,fun hj=>by omega⟩
 have:=h.2.1 j hj
 unfold nameB at this⊢
 rw [List.getD_eq_getElem?_getD,List.getElem?_take,if_pos hj, ←List.getD_eq_getElem?_getD]
 exact this
theorem AU (r:List Int) (hb:nN r) (h:0<fC r):uo (dI (r.take (fC r))):=by
 have hle:=(qH r).1
 have hby:nN (r.take (fC r)):=bytT hb _
 refine ⟨fun e=>?_,?_⟩
 ·have:=congrArg ByteArray.size e
  rw [jP,List.length_take] at this
  have:ak.size=0:=rfl
  omega
 ·rw [xH hby,LG,jP,List.length_take]
  omega
structure Tk.Is (t:Tk):Prop where
 lo:0≤t.num
 hi:t.num≤9223372036854775807
 nm:t.kind=3→uo t.text
 op: ¬t.kind=3→t.text=ak∨t.text∈aF
theorem kD (l:List Int) (hb:nN l) (p:Nat):(tok l p).Is:=by
 have hn:=jT l p
 refine ⟨hn.lo,hn.hi,?_,?_⟩
 all_goals
  clear hn
  unfold tok
  generalize ay l p=q
  have hb':nN (l.drop q):=aal hb q
  generalize l.drop q=r at hb'⊢
  unfold gY
  split
  ·intro h;first | (simp at h;done) | exact Or.inl rfl
  ·split
   ·intro h
    first
     | exact AU r hb' (by assumption)
     | exact absurd rfl h
   ·split
    ·intro h;first | (simp at h;done) | exact Or.inl rfl
    ·split
     ·intro h;first | (simp at h;done) | exact (kX _ _).imp id And.left
     ·intro h;first | (simp at h;done) | exact Or.inl rfl
theorem Ed {s:ByteArray} (h:uo s):fZ s=false:=by
 obtain ⟨hne,h⟩:=h
 have hpos:=size_pos hne
 have hlen:=bC s
 have hh:=(qH (bT s)).2.1 (s.size - 1) (by omega)
 unfold fZ
 have:Lib.hasSuffix s.data.toList [61]=false:=by
  rw [Bool.eq_false_iff]
  intro hc
  have hsuf:[61]<:+s.data.toList:=by simpa [Lib.hasSuffix] using hc
  obtain ⟨y,hy⟩:=hsuf
  have hb:bT s=y.map (fun c=>(c.toNat:Int))++[61]:=by
   show s.data.toList.map _=_
   rw [←hy];simp
  have hy':y.length=s.size - 1:=by
   have:=congrArg List.length hb
   simp at this
   omega
  unfold nameB at hh
  rw [hb,List.getD_eq_getElem?_getD,List.getElem?_append_right (by simp;omega)] at hh
  simp [hy',jh,jd] at hh
 rw [this,Bool.and_false]
theorem kQ {s:ByteArray} {L:List ByteArray} (h: ∃x∈L,x=s):s∈L:=by
 obtain ⟨x,hx,e⟩:=h
 rw [←e]
 exact hx
theorem Oz {s:ByteArray} (h: ¬jo s=ak):jo s∈WU:=by
 unfold jo at h⊢
 split
 ·rename_i c
  rcases c with rfl | rfl<;>exact kQ (by decide)
 ·rename_i c
  rw [if_neg c] at h
  split
  ·rename_i d
   rcases d with rfl | rfl<;>exact kQ (by decide)
  ·rename_i d
   rw [if_neg d] at h
   exact absurd rfl h
def Md.LOps:Md→Prop
 | .loop _ t=>t.Ops
 | _=>True
theorem jU (l:List Int) (hb:nN l): ∀(n:Nat) (md:Md) (t:Tk),t.Is→md.Ok→md.LOps→ ∀e t',rd l n md t=some (.ok e t')→e.Ops∧t'.Is
 | 0,md,t,_,_,_,e,t',h=>by cases md<;>simp [rd] at h
 | n +1,.expr,t,ht,_,_,e,t',h=>by
  simp only [rd] at h
  by_cases c:t.kind=3∧fZ (tok l t.stop).text=true
  ·rw [if_pos c] at h
   generalize hx:rd l n .expr (tok l (tok l t.stop).stop)=x at h
   match x,hx,h with
   | some (.ok a t1),hx,h=>
    simp only [Option.some.injEq,Rs.ok.injEq] at h
    obtain ⟨rfl,rfl⟩:=h
    obtain ⟨ha,h1⟩:=jU l hb n .expr _ (kD _ hb _) trivial trivial _ _ hx
    have hop:(tok l t.stop).text∈aF:=by
     have hi:=kD l hb t.stop
     by_cases hk:(tok l t.stop).kind=3
     ·exact absurd c.2 (by rw [Ed (hi.nm hk)];decide)
     ·rcases hi.op hk with he | he
      ·exact absurd c.2 (by rw [he];decide)
      ·exact he
    exact ⟨⟨c.2,hop,ht.nm c.1,ha⟩,h1⟩
  ·rw [if_neg c] at h
   exact jU l hb n .cond t ht trivial trivial _ _ h
 | n + 1,.cond,t,ht,_,_,e,t',h=>by
  simp only [rd] at h
  generalize hx:rd l n (.bin 1) t=x at h
  match x,hx,h with
  | some (.ok a t1),hx,h=>
   obtain ⟨ha,h1⟩:=jU l hb n (.bin 1) t ht (Nat.le_refl 1) trivial _ _ hx
   simp only [] at h
   by_cases c:t1.text=iE
   ·rw [if_pos c] at h
    generalize hy:rd l n .expr (tok l t1.stop)=y at h
    match y,hy,h with
    | some (.ok b t2),hy,h=>
     obtain ⟨hb0,h2⟩:=jU l hb n .expr _ (kD _ hb _) trivial trivial _ _ hy
     simp only [] at h
     by_cases d:t2.text=o8
     ·rw [if_pos d] at h
      generalize hz:rd l n .cond (tok l t2.stop)=z at h
      match z,hz,h with
      | some (.ok f t3),hz,h=>
       obtain ⟨hf,h3⟩:=jU l hb n .cond _ (kD _ hb _) trivial trivial _ _ hz
       simp only [Option.some.injEq,Rs.ok.injEq] at h
       obtain ⟨rfl,rfl⟩:=h
       exact ⟨⟨c,ha,hb0,hf⟩,h3⟩
     ·rw [if_neg d] at h
      simp [refuse] at h
   ·rw [if_neg c] at h
    simp only [Option.some.injEq,Rs.ok.injEq] at h
    obtain ⟨rfl,rfl⟩:=h
    exact ⟨ha,h1⟩
 | n+1,.bin k,t,ht,hk,_,e,t',h=>by
  simp only [rd] at h
  generalize hx:rd l n .iR t=x at h
  match x,hx,h with
  | some (.ok a t1),hx,h=>
   obtain ⟨ha,h1⟩:=jU l hb n .iR t ht trivial trivial _ _ hx
   exact jU l hb n (.loop k a) t1 h1 hk ha _ _ h
 | n+1,.loop k left,t,ht,hk,hl,e,t',h=>by
  simp only [rd] at h
  by_cases c:k≤dO t.text
  ·rw [if_pos c] at h
   generalize hx:rd l n (.bin (dO t.text+1)) (tok l t.stop)=x at h
   match x,hx,h with
   | some (.ok b t2),hx,h=>
    obtain ⟨hb0,h2⟩:=jU l hb n (.bin (dO t.text+1)) _ (kD _ hb _) (Nat.le_add_left 1 _) trivial _ _ hx
    exact jU l hb n (.loop k (.bin t.text t.start left b)) t2 h2 hk ⟨Nat.le_trans hk c,hl,hb0⟩ _ _ h
  ·rw [if_neg c] at h
   simp only [Option.some.injEq,Rs.ok.injEq] at h
   obtain ⟨rfl,rfl⟩:=h
   exact ⟨hl,ht⟩
 | n +1,.iR,t,ht,_,_,e,t',h=>by
  simp only [rd] at h
  by_cases c2:t.kind=2
  ·rw [if_pos c2] at h
   by_cases co:t.over=true
   ·rw [if_pos co] at h;simp [refuse] at h
   ·rw [if_neg co] at h
    by_cases cg:gG l t.stop=true
    ·rw [if_pos cg] at h;simp at h
    ·rw [if_neg cg] at h
     simp only [Option.some.injEq,Rs.ok.injEq] at h
     obtain ⟨rfl,rfl⟩:=h
     exact ⟨⟨ht.lo,ht.hi⟩,kD _ hb _⟩
  rw [if_neg c2] at h
  by_cases c3:t.kind=3
  ·rw [if_pos c3] at h
   simp only [Option.some.injEq,Rs.ok.injEq] at h
   obtain ⟨rfl,rfl⟩:=h
   exact ⟨ht.nm c3,kD _ hb _⟩
  rw [if_neg c3] at h
  by_cases cu: ¬jo t.text=ak
  ·rw [if_pos cu] at h
   generalize hx:rd l n .iR (tok l t.stop)=x at h
   match x,hx,h with
   | some (.ok a t1),hx,h=>
    simp only [Option.some.injEq,Rs.ok.injEq] at h
    obtain ⟨rfl,rfl⟩:=h
    obtain ⟨ha,h1⟩:=jU l hb n .iR _ (kD _ hb _) trivial trivial _ _ hx
    exact ⟨⟨Oz cu,ha⟩,h1⟩
  rw [if_neg cu] at h
  by_cases cp:t.text=jy
  ·rw [if_pos cp] at h
   generalize hx:rd l n .expr (tok l t.stop)=x at h
   match x,hx,h with
   | some (.ok a t1),hx,h=>
    obtain ⟨ha,h1⟩:=jU l hb n .expr _ (kD _ hb _) trivial trivial _ _ hx
    simp only [] at h
    by_cases cs:t1.text=jw
    ·rw [if_pos cs] at h
     simp only [Option.some.injEq,Rs.ok.injEq] at h
     obtain ⟨rfl,rfl⟩:=h
     exact ⟨ha,kD _ hb _⟩
    ·rw [if_neg cs] at h
     simp [refuse] at h
  ·rw [if_neg cp] at h
   simp [refuse] at h
theorem pV {l:List Int} (hb:nN l) {n:Nat} {e:Tr} {t:Tk} (h:cZ l n=some (.ok e t)):e.Ops:=by
 unfold cZ at h
 by_cases c:1024<l.length
 ·rw [if_pos c] at h;simp at h
 ·rw [if_neg c] at h
  unfold mF at h
  generalize hx:rd l n .expr (tok l 0)=x at h
  match x,hx,h with
  | some (.ok a t1),hx,h=>
   obtain ⟨ha,-⟩:=jU l hb n .expr _ (kD _ hb _) trivial trivial _ _ hx
   simp only [] at h
   by_cases c:t1.kind=0
   ·rw [if_pos c] at h
    simp only [Option.some.injEq,Rs.ok.injEq] at h
    obtain ⟨rfl,rfl⟩:=h
    exact ha
   ·rw [if_neg c] at h
    simp [refuse] at h
def fB (l:List Int) (p:Nat):ByteArray:=mG (l.drop (ay l p))
theorem Gz (p:Int→Bool): ∀(r:List Int) (x:Int) (m:List Int),r.drop (pre p r)=x::m→p x=false
 | [],x,m,h=>by simp at h
 | c::r,x,m,h=>by
  unfold pre at h
  by_cases hc:p c=true
  ·rw [List.takeWhile_cons_of_pos hc,List.length_cons,List.drop_succ_cons] at h
   exact Gz p r x m h
  ·rw [List.takeWhile_cons_of_neg hc] at h
   simp only [List.length_nil,List.drop_zero,List.cons.injEq] at h
   rw [←h.1]
   simpa using hc
theorem Lc (p:Int→Bool): ∀r:List Int,(∀x m,r=x::m→p x=false)→pre p r=0
 | [],_=>rfl
 | c::r,h=>by
  unfold pre
  rw [List.takeWhile_cons_of_neg (by rw [h c r rfl];decide)]
  rfl
theorem Qz (l:List Int) (p:Nat):ay l (ay l p)=ay l p:=by
 have h:pre bM (l.drop (ay l p))=0:=Lc _ _ fun x m e=>Gz bM (l.drop p) x m (by
  rw [List.drop_drop]
  exact e)
 show ay l p+pre bM (l.drop (ay l p))=_
 rw [h]
 rfl
theorem kS (l:List Int) (p:Nat):tok l (ay l p)=tok l p:=by unfold tok;rw [Qz]
theorem Ec {x:Int} {m:List Int} (h:jh x=true∨jd x=true):mG (x::m)=ak:=by
 rcases kX (x::m) aF with h' | ⟨hm,hb⟩
 ·exact h'
 ·exfalso
  have hh:=Eb _ hm
  rw [lQ] at hb
  generalize dJ (x::m) aF=s at*
  obtain ⟨h1,h2⟩:=hb
  obtain ⟨h3,h4⟩:=hh
  obtain ⟨k,hk⟩: ∃k,s.size=k+1:=⟨s.size - 1,by omega⟩
  rw [hk,List.take_succ_cons,List.map_cons] at h2
  rw [←h2,List.all_cons] at h4
  simp only [Bool.and_eq_true] at h4
  obtain ⟨⟨a1,a2⟩,_⟩:=h4
  have hx:48≤x∧x≤122:=by
   unfold jh jd at h
   simp only [decide_eq_true_eq] at h
   omega
  have hy:x=((UInt8.ofNat x.toNat).toNat:Int):=by
   simp
   omega
  generalize UInt8.ofNat x.toNat=c at*
  subst hy
  simp only [Bool.not_eq_true',decide_eq_false_iff_not,UInt8.le_iff_toNat_le, ←UInt8.toNat_inj] at a1 a2
  have z1:(48:UInt8).toNat=48:=rfl
  have z2:(57:UInt8).toNat=57:=rfl
  have z3:(97:UInt8).toNat=97:=rfl
  have z4:(122:UInt8).toNat=122:=rfl
  have z5:(65:UInt8).toNat=65:=rfl
  have z6:(90:UInt8).toNat=90:=rfl
  have z7:(95:UInt8).toNat=95:=rfl
  rw [z1,z2] at a1
  rw [z3,z4,z5,z6,z7] at a2
  unfold jh jd at h
  simp only [decide_eq_true_eq] at h
  omega
theorem I9:mG []=ak:=by
 rcases kX [] aF with h' | ⟨hm,hb⟩
 ·exact h'
 ·have h1:=(lq _ hm).1
  rw [lQ] at hb
  have h2:=hb.1
  rw [List.length_nil] at h2
  omega
theorem lg (l:List Int) (p:Nat):
  (l.drop (ay l p)=[]∧tok l p=⟨0,ay l p,ay l p,ak,0,false⟩∧fB l p=ak)∨
  (0<fC (l.drop (ay l p))∧cN (l.drop (ay l p))=0∧tok l p=⟨3,ay l p,ay l p+fC (l.drop (ay l p)),dI ((l.drop (ay l p)).take (fC (l.drop (ay l p)))),0,false⟩∧fB l p=ak)∨
  (fC (l.drop (ay l p))=0∧0<cN (l.drop (ay l p))∧tok l p=⟨2,ay l p,ay l p+cN (l.drop (ay l p)),ak,cV (l.drop (ay l p)),cO (l.drop (ay l p))⟩∧fB l p=ak)∨
  (fC (l.drop (ay l p))=0∧cN (l.drop (ay l p))=0∧ ¬fB l p=ak∧tok l p=⟨4,ay l p,ay l p+(fB l p).size,fB l p,0,false⟩)∨
  (fC (l.drop (ay l p))=0∧cN (l.drop (ay l p))=0∧fB l p=ak∧ ¬l.drop (ay l p)=[]∧tok l p=⟨1,ay l p,ay l p,ak,0,false⟩):=by
 unfold tok fB
 generalize ay l p=q
 generalize l.drop q=r
 cases r with
 | nil=>exact Or.inl ⟨rfl,rfl,I9⟩
 | cons x m=>
  have h0:0<(x::m).length:=by simp
  have hN:jh x=false→fC (x::m)=0:=fun h=>BU fun y m' e=>by
   simp only [List.cons.injEq] at e
   rw [←e.1];exact h
  have hC:jd x=false→cN (x::m)=0:=fun h=>vF fun y m' e=>by
   simp only [List.cons.injEq] at e
   rw [←e.1];exact h
  by_cases h1:0<fC (x::m)
  ·have hl:jh x=true:=by
    cases hh:jh x with
    | true=>rfl
    | false=>rw [hN hh] at h1;omega
   have hn:jd x=false:=by
    unfold jh at hl
    unfold jd
    simp only [decide_eq_true_eq,decide_eq_false_iff_not] at hl⊢
    omega
   exact Or.inr (Or.inl ⟨h1,hC hn,zo h0 h1,Ec (Or.inl hl)⟩)
  ·by_cases h2:0<cN (x::m)
   ·have hn:jd x=true:=by
     cases hh:jd x with
     | true=>rfl
     | false=>rw [hC hh] at h2;omega
    exact Or.inr (Or.inr (Or.inl ⟨by omega,h2,Au h0 h1 h2,Ec (Or.inr hn)⟩))
   ·by_cases h3:mG (x::m)=ak
    ·exact Or.inr (Or.inr (Or.inr (Or.inr ⟨by omega,by omega,h3,by simp,Ar h0 h1 h2 h3⟩)))
    ·exact Or.inr (Or.inr (Or.inr (Or.inl ⟨by omega,by omega,h3,yF h0 h1 h2 h3⟩)))
theorem IX (l:List Int) (p:Nat):fB l p=ak∨fB l p∈aF:=(kX _ _).imp id And.left
theorem OQ (l:List Int) (p:Nat):(fB l p).size≤3:=by
 rcases IX l p with h | h
 ·rw [h];decide
 ·exact (lq _ h).2
theorem gQ (l:List Int) (p:Nat) (h:p≤l.length):ay l p+(fB l p).size≤l.length:=by
 have h1:=bJ l p h
 have h2:=zq (l.drop (ay l p))
 rw [List.length_drop] at h2
 unfold fB
 omega
theorem AQ {s:ByteArray} (h:uo s):s∉aF:=by
 intro hm
 obtain ⟨h1,h2⟩:=h
 have hb:mG (bT s)=ak:=by
  cases hs:bT s with
  | nil=>exact I9
  | cons x m=>
   refine Ec (Or.inl ?_)
   have h3:=(qH (bT s)).2.1 0 (by rw [h2];exact size_pos h1)
   rw [hs] at h3
   simpa [nameB] using h3
 obtain ⟨i,hi,e⟩:=List.getElem_of_mem hm
 have hi':i<35:=hi
 have hd:aF.getD i ak=s:=by rw [List.getD,List.getElem?_eq_getElem hi];exact e
 have ho:=UD i hi' [] (fun _ _ h=>by cases h)
 rw [hd,List.append_nil,hb] at ho
 exact h1 ho.symm
theorem tN {l:List Int} (hb:nN l) (p:Nat):(tok l p).text=fB l p∨(fB l p=ak∧uo (tok l p).text):=by
 rcases lg l p with ⟨_,e,s⟩ | ⟨h,_,e,s⟩ | ⟨_,_,e,s⟩ | ⟨_,_,s,e⟩ | ⟨_,_,s,_,e⟩
 ·left;rw [e,s]
 ·right
  refine ⟨s,?_⟩
  rw [e]
  exact AU _ (aal hb _) h
 ·left;rw [e,s]
 ·left;rw [e]
 ·left;rw [e,s]
theorem Eo {s:ByteArray} (h:s∉aF): ∀(rows:List (List ByteArray)) (k:Nat),(∀r∈rows,∀x∈r,x∈aF)→rowFrom s rows k=0
 | [],_,_=>rfl
 | r::rs,k,hr=>by
  have:r.any (fun x=>decide (x=s))=false:=by
   rw [Bool.eq_false_iff]
   intro ha
   rw [List.any_eq_true] at ha
   obtain ⟨x,hx,e⟩:=ha
   have e':x=s:=of_decide_eq_true e
   exact h (e'▸hr r (by simp) x hx)
  unfold rowFrom
  rw [this]
  exact Eo h rs (k+1) fun r' hr'=>hr r' (by simp [hr'])
theorem QJ: ∀r∈bG,∀x∈r,∃y∈aF,y=x:=by decide
theorem NU: ∀r∈bG,∀x∈r,x∈aF:=fun r hr x hx=>kQ (QJ r hr x hx)
theorem L8:ak∉aF:=fun h=>absurd (lq _ h).1 (by decide)
theorem XA {s:ByteArray} (h:s∉aF):dO s=0:=Eo h bG 0 NU
theorem aat {l:List Int} (hb:nN l) (p:Nat):dO (tok l p).text=dO (fB l p):=by
 rcases tN hb p with e | ⟨e,n⟩
 ·rw [e]
 ·rw [e,XA (AQ n)];decide
theorem aau {l:List Int} (hb:nN l) (p:Nat):fZ (tok l p).text=fZ (fB l p):=by
 rcases tN hb p with e | ⟨e,n⟩
 ·rw [e]
 ·rw [e,Ed n];decide
theorem zn {l:List Int} (hb:nN l) (p:Nat) {x:ByteArray} (hx:x∈aF):(tok l p).text=x↔fB l p=x:=by
 rcases tN hb p with e | ⟨e,n⟩
 ·rw [e]
 ·constructor
  ·intro h;rw [h] at n;exact absurd hx (AQ n)
  ·intro h;rw [e] at h;rw [←h] at hx;exact absurd hx L8
theorem aas {s:ByteArray} (h: ¬jo s=ak):s∈aF:=by
 unfold jo at h
 split at h
 ·rename_i c
  rcases c with rfl | rfl<;>exact kQ (by decide)
 ·split at h
  ·rename_i d
   rcases d with rfl | rfl<;>exact kQ (by decide)
  ·exact absurd rfl h
theorem tx_un {l:List Int} (hb:nN l) (p:Nat):jo (tok l p).text=jo (fB l p):=by
 rcases tN hb p with e | ⟨e,n⟩
 ·rw [e]
 ·rw [e]
  have h1:jo (tok l p).text=ak:=Classical.byContradiction fun h=>AQ n (aas h)
  rw [h1];decide
theorem Xq (l:List Int) (p:Nat):(tok l p).code=if 0<cN (l.drop (ay l p))∧cO (l.drop (ay l p))=true then 6 else 3:=by
 rcases lg l p with ⟨h,e,s⟩ | ⟨h,h2,e,s⟩ | ⟨_,h,e,s⟩ | ⟨_,h,s,e⟩ | ⟨_,h,s,_,e⟩
 ·rw [e,h,if_neg (by rw [vF (by intro x m e;cases e)];omega)];rfl
 ·rw [e,if_neg (by omega)];rfl
 ·rw [e]
  unfold Tk.code
  cases hc:cO (l.drop (ay l p))<;>simp [h]
 ·rw [e,if_neg (by omega)];rfl
 ·rw [e,if_neg (by omega)];rfl
theorem KE (l:List Int) (p:Nat):(tok l p).start=ay l p:=by unfold tok;rw [sU]
end Go.Proofs.YtacfglopionkfaaGreatDoor
