import Derived.Test.YtacfglopionkfaaGreatDoorKPa
namespace Go.Proofs.YtacfglopionkfaaGreatDoor
open Go.RowKit
theorem ZJ (r m:List Int) (x:Int) (hx:x=41):fC (r++x::m)=fC r:=by
 obtain ⟨a,b,c⟩:=iL (nameB r) r.length
 have hl:(r++x::m).length=r.length+(m.length+1):=by simp
 refine (iL (nameB (r++x::m)) (r++x::m).length).same ⟨?_,?_,?_⟩
 ·show iG (nameB r) r.length≤_
  omega
 ·intro j hj
  have hj:j<iG (nameB r) r.length:=hj
  have h:=b j hj
  unfold nameB at h⊢
  rw [oU _ _ _ (by omega)]
  exact h
 ·intro _
  show nameB (r++x::m) (iG (nameB r) r.length)=false
  generalize iG (nameB r) r.length=k at*
  by_cases hk:k<r.length
  ·have h:=c hk
   unfold nameB at h⊢
   rw [oU _ _ _ hk]
   exact h
  ·obtain rfl:k=r.length:=by omega
   unfold nameB
   rw [Rz]
   subst hx;simp [jh,jd]
theorem QM (r m:List Int) (x:Int) (hx:x=41):jv (r++x::m)=jv r:=by
 match r with
 | []=>subst hx;simp [jv]
 | [a]=>subst hx;simp [jv]
 | [a,b]=>subst hx;simp [jv,oG]
 | a::b::c::r=>simp [jv]
theorem XU (r m:List Int) (x:Int) (hx:x=41):cB (r++x::m)=cB r:=by
 cases r with
 | nil=>subst hx;simp [cB]
 | cons c r=>simp [cB]
theorem aa0 (b x:Int) (hb:b≤16) (hx:x=41):um b x=false:=by
 have e:oG x=16:=by subst hx;rfl
 unfold um
 rw [e]
 simpa using hb
theorem XI (b:Int) (r m:List Int) (x:Int) (hb:b≤16) (hx:x=41):rN b (r++x::m)=rN b r:=pre_app _ _ _ (aa0 b x hb hx) r
theorem gN_appB (b:Int) (r m:List Int) (x:Int) (hx:x=41):gN b (r++x::m)=gN b r:=by
 unfold gN
 split
 ·exact XI b r m x (by omega) hx
 ·rfl
theorem gV_appB (b:Int) (r m:List Int) (x:Int) (hx:x=41):gV b (r++x::m)=gV b r:=by
 unfold gV
 split
 ·unfold rV;rw [XI b r m x (by omega) hx,ZC b r (x::m) (rN b r) (vU _ _)]
 ·rfl
theorem gO_appB (b:Int) (r m:List Int) (x:Int) (hx:x=41):gO b (r++x::m)=gO b r:=by
 unfold gO
 split
 ·unfold rO;rw [XI b r m x (by omega) hx,ZC b r (x::m) (rN b r) (vU _ _)]
 ·rfl
theorem cN_appB (r m:List Int) (x:Int) (hx:x=41):cN (r++x::m)=cN r:=by
 unfold cN
 rw [QM r m x hx,XU r m x hx]
 split
 ·rename_i h;rw [List.drop_append_of_le_length (Va h),gN_appB _ _ _ _ hx]
 ·exact gN_appB _ _ _ _ hx
theorem cV_appB (r m:List Int) (x:Int) (hx:x=41):cV (r++x::m)=cV r:=by
 unfold cV
 rw [QM r m x hx,XU r m x hx]
 split
 ·rename_i h;rw [List.drop_append_of_le_length (Va h),gV_appB _ _ _ _ hx]
 ·exact gV_appB _ _ _ _ hx
theorem cO_appB (r m:List Int) (x:Int) (hx:x=41):cO (r++x::m)=cO r:=by
 unfold cO
 rw [QM r m x hx,XU r m x hx]
 split
 ·rename_i h;rw [List.drop_append_of_le_length (Va h),gO_appB _ _ _ _ hx]
 ·exact gO_appB _ _ _ _ hx
theorem ops_shut: ∀s∈aF,(s.data.toList.all fun c=>c !=41)=true∨s.size=1:=by decide
theorem ZM (r m:List Int) (hr:0<r.length) (s:ByteArray) (hs:(s.data.toList.all fun c=>c !=41)=true∨s.size=1):begins (r++41::m) s=begins r s:=by
 unfold begins
 by_cases h:s.size≤r.length
 ·have hl:s.size≤(r++41::m).length:=by simp;omega
  rw [List.take_append_of_le_length h,decide_eq_true h,decide_eq_true hl]
 ·have hs:(s.data.toList.all fun c=>c !=41)=true:=hs.resolve_right (by omega)
  have e1:decide (s.size≤r.length)=false:=decide_eq_false h
  have e2:decide (dI ((r++41::m).take s.size)=s)=false:=by
   apply decide_eq_false
   intro he
   have hd:s.data.toList=((r++41::m).take s.size).map fun n=>UInt8.ofNat n.toNat:=(congrArg (fun t:ByteArray=>t.data.toList) he).symm
   have hm:(41:UInt8)∈s.data.toList:=by
    rw [hd,List.take_append,List.map_append]
    obtain ⟨j,hj⟩: ∃j,s.size - r.length=j+1:=⟨s.size - r.length - 1,by omega⟩
    rw [hj]
    simp
   rw [List.all_eq_true] at hs
   have:=hs _ hm
   simp at this
  rw [e1,e2,Bool.and_false,Bool.false_and]
theorem Ry (r m:List Int) (hr:0<r.length): ∀L:List ByteArray,(∀s∈L,(s.data.toList.all fun c=>c !=41)=true∨s.size=1)→dJ (r++41::m) L=dJ r L
 | [],_=>rfl
 | s::L,h=>by
  unfold dJ
  rw [ZM r m hr s (h s (by simp)),Ry r m hr L fun t ht=>h t (by simp [ht])]
theorem opB_appB (r m:List Int) (hr:0<r.length):mG (r++41::m)=mG r:=Ry r m hr aF ops_shut
theorem tokL_appB (r m:List Int) (x:Int) (hx:x=41) (q:Nat) (h:0<r.length):gY (r++x::m) q=gY r q:=by
 unfold gY
 rw [ZJ r m x hx,cN_appB r m x hx,cV_appB r m x hx,cO_appB r m x hx,show mG (r++x::m)=mG r by subst hx;exact opB_appB r m h,if_neg (by simp),if_neg (by omega: ¬r.length=0),List.take_append_of_le_length (rE r)]
theorem tok_appB (l m:List Int) (x:Int) (hx:x=41) (q:Nat) (h:q≤l.length) (hs:(tok l q).start<l.length):tok (l++x::m) q=tok l q:=by
 have hs':ay l q<l.length:=by unfold tok at hs;rw [sU] at hs;exact hs
 unfold tok
 rw [skip_app _ _ _ h hs',Qi (by omega),tokL_appB _ _ _ hx _ (by rw [List.length_drop];omega)]
theorem aaZ (l m:List Int) (x:Int) (hx:x=41) (q:Nat) (h:q≤l.length):gG (l++x::m) q=gG l q:=by
 unfold gG
 have hl:(l++x::m).length=l.length+(m.length+1):=by simp
 rw [Qi h,ZJ _ m x hx,hl]
 by_cases hq:q<l.length
 ·rw [oU _ _ _ hq,decide_eq_true hq,decide_eq_true (by omega:q<l.length+(m.length+1))]
 ·obtain rfl:q=l.length:=by omega
  rw [Rz,List.drop_length]
  subst hx;simp [jd,fC,iG]
def Tk.Lies (l:List Int) (t:Tk):Prop:=t.start≤l.length∧t.stop≤l.length
def Rs.Lies (l:List Int):Rs→Prop
 | .ok _ t=>t.Lies l
 | .bad _ p=>p≤l.length
theorem iI (l:List Int) (p:Nat) (h:p≤l.length):(tok l p).Lies l:=by
 unfold tok
 have hs:ay l p≤l.length:=by
  unfold ay
  have:=vU bM (l.drop p)
  rw [List.length_drop] at this
  omega
 generalize ay l p=q at hs
 have hl:(l.drop q).length=l.length - q:=List.length_drop
 generalize l.drop q=r at hl⊢
 refine ⟨by rw [sU];exact hs,?_⟩
 by_cases h0:r.length=0
 ·have e:gY r q=⟨0,q,q,ak,0,false⟩:=by unfold gY;rw [if_pos h0]
  rw [e]
  exact hs
 have h0:0<r.length:=by omega
 by_cases h1:0<fC r
 ·rw [zo h0 h1]
  have:=rE r
  show q+fC r≤_
  omega
 by_cases h2:0<cN r
 ·rw [Au h0 h1 h2]
  have:=vg r
  show q+cN r≤_
  omega
 by_cases h3:mG r=ak
 ·rw [Ar h0 h1 h2 h3]
  exact hs
 ·rw [yF h0 h1 h2 h3]
  have:=zq r
  show q+(mG r).size≤_
  omega
theorem mg (l:List Int): ∀(n:Nat) (md:Md) (t:Tk),t.Lies l→ ∀r,rd l n md t=some r→r.Lies l
 | 0,md,t,_,r,h=>by cases md<;>simp [rd] at h
 | n+1,.expr,t,ht,r,h=>by
  simp only [rd] at h
  by_cases c:t.kind=3∧fZ (tok l t.stop).text=true
  ·rw [if_pos c] at h
   generalize hx:rd l n .expr (tok l (tok l t.stop).stop)=x at h
   match x,hx,h with
   | some (.ok a t1),hx,h=>
    have h1:=mg l n .expr _ (iI l _ (iI l _ ht.2).2) _ hx
    simp only [Option.some.injEq] at h
    subst h
    exact h1
   | some (.bad a p),hx,h=>
    have h1:=mg l n .expr _ (iI l _ (iI l _ ht.2).2) _ hx
    simp only [Option.some.injEq] at h
    subst h
    exact h1
   | none,_,h=>simp at h
  ·rw [if_neg c] at h
   exact mg l n .cond t ht _ h
 | n + 1,.cond,t,ht,r,h=>by
  simp only [rd] at h
  generalize hx:rd l n (.bin 1) t=x at h
  match x,hx,h with
  | none,_,h=>simp at h
  | some (.bad a p),hx,h=>
   have h1:=mg l n (.bin 1) t ht _ hx
   simp only [Option.some.injEq] at h
   subst h
   exact h1
  | some (.ok a t1),hx,h=>
   have h1:t1.Lies l:=mg l n (.bin 1) t ht _ hx
   simp only [] at h
   by_cases c:t1.text=iE
   ·rw [if_pos c] at h
    generalize hy:rd l n .expr (tok l t1.stop)=y at h
    match y,hy,h with
    | none,_,h=>simp at h
    | some (.bad a p),hy,h=>
     have h2:=mg l n .expr _ (iI l _ h1.2) _ hy
     simp only [Option.some.injEq] at h
     subst h
     exact h2
    | some (.ok b t2),hy,h=>
     have h2:t2.Lies l:=mg l n .expr _ (iI l _ h1.2) _ hy
     simp only [] at h
     by_cases d:t2.text=o8
     ·rw [if_pos d] at h
      generalize hz:rd l n .cond (tok l t2.stop)=z at h
      match z,hz,h with
      | none,_,h=>simp at h
      | some (.bad a p),hz,h=>
       have h3:=mg l n .cond _ (iI l _ h2.2) _ hz
       simp only [Option.some.injEq] at h
       subst h
       exact h3
      | some (.ok f t3),hz,h=>
       have h3:=mg l n .cond _ (iI l _ h2.2) _ hz
       simp only [Option.some.injEq] at h
       subst h
       exact h3
     ·rw [if_neg d] at h
      simp only [Option.some.injEq] at h
      subst h
      exact h2.1
   ·rw [if_neg c] at h
    simp only [Option.some.injEq] at h
    subst h
    exact h1
 | n+1,.bin k,t,ht,r,h=>by
  simp only [rd] at h
  generalize hx:rd l n .iR t=x at h
  match x,hx,h with
  | none,_,h=>simp at h
  | some (.bad a p),hx,h=>
   have h1:=mg l n .iR t ht _ hx
   simp only [Option.some.injEq] at h
   subst h
   exact h1
  | some (.ok a t1),hx,h=>
   have h1:t1.Lies l:=mg l n .iR t ht _ hx
   exact mg l n (.loop k a) t1 h1 _ h
 | n+1,.loop k left,t,ht,r,h=>by
  simp only [rd] at h
  by_cases c:k≤dO t.text
  ·rw [if_pos c] at h
   generalize hx:rd l n (.bin (dO t.text+1)) (tok l t.stop)=x at h
   match x,hx,h with
   | none,_,h=>simp at h
   | some (.bad a p),hx,h=>
    have h1:=mg l n (.bin (dO t.text+1)) _ (iI l _ ht.2) _ hx
    simp only [Option.some.injEq] at h
    subst h
    exact h1
   | some (.ok b t2),hx,h=>
    have h1:t2.Lies l:=mg l n (.bin (dO t.text+1)) _ (iI l _ ht.2) _ hx
    exact mg l n (.loop k (.bin t.text t.start left b)) t2 h1 _ h
  ·rw [if_neg c] at h
   simp only [Option.some.injEq] at h
   subst h
   exact ht
 | n +1,.iR,t,ht,r,h=>by
  simp only [rd] at h
  by_cases c2:t.kind=2
  ·rw [if_pos c2] at h
   by_cases co:t.over=true
   ·rw [if_pos co] at h
    simp only [Option.some.injEq] at h
    subst h
    exact ht.1
   ·rw [if_neg co] at h
    by_cases cg:gG l t.stop=true
    ·rw [if_pos cg] at h
     simp only [Option.some.injEq] at h
     subst h
     exact ht.2
    ·rw [if_neg cg] at h
     simp only [Option.some.injEq] at h
     subst h
     exact iI l _ ht.2
  rw [if_neg c2] at h
  by_cases c3:t.kind=3
  ·rw [if_pos c3] at h
   simp only [Option.some.injEq] at h
   subst h
   exact iI l _ ht.2
  rw [if_neg c3] at h
  by_cases cu: ¬jo t.text=ak
  ·rw [if_pos cu] at h
   generalize hx:rd l n .iR (tok l t.stop)=x at h
   match x,hx,h with
   | none,_,h=>simp at h
   | some (.bad a p),hx,h=>
    have h1:=mg l n .iR _ (iI l _ ht.2) _ hx
    simp only [Option.some.injEq] at h
    subst h
    exact h1
   | some (.ok a t1),hx,h=>
    have h1:=mg l n .iR _ (iI l _ ht.2) _ hx
    simp only [Option.some.injEq] at h
    subst h
    exact h1
  rw [if_neg cu] at h
  by_cases cp:t.text=jy
  ·rw [if_pos cp] at h
   generalize hx:rd l n .expr (tok l t.stop)=x at h
   match x,hx,h with
   | none,_,h=>simp at h
   | some (.bad a p),hx,h=>
    have h1:=mg l n .expr _ (iI l _ ht.2) _ hx
    simp only [Option.some.injEq] at h
    subst h
    exact h1
   | some (.ok a t1),hx,h=>
    have h1:t1.Lies l:=mg l n .expr _ (iI l _ ht.2) _ hx
    simp only [] at h
    by_cases cs:t1.text=jw
    ·rw [if_pos cs] at h
     simp only [Option.some.injEq] at h
     subst h
     exact iI l _ h1.2
    ·rw [if_neg cs] at h
     simp only [Option.some.injEq] at h
     subst h
     exact h1.1
  ·rw [if_neg cp] at h
   simp only [Option.some.injEq] at h
   subst h
   exact ht.1
def Tk.sh (k:Nat) (t:Tk):Tk:=⟨t.kind,k+t.start,k+t.stop,t.text,t.num,t.over⟩
def Tr.sh (k:Nat):Tr→Tr
 | .num n p=> .num n (k+p)
 | .name s p=> .name s (k+p)
 | .un op p a=> .un op (k+p) (a.sh k)
 | .bin op p a b=> .bin op (k+p) (a.sh k) (b.sh k)
 | .cond op p a b c=> .cond op (k+p) (a.sh k) (b.sh k) (c.sh k)
 | .eF op s p q a=> .eF op s (k+p) (k+q) (a.sh k)
def Rs.sh (k:Nat):Rs→Rs
 | .ok t n=> .ok (t.sh k) (n.sh k)
 | .bad c p=> .bad c (k+p)
def Md.sh (k:Nat):Md→Md
 | .loop n left=> .loop n (left.sh k)
 | .expr=> .expr
 | .cond=> .cond
 | .bin n=> .bin n
 | .iR=> .iR
theorem tokL_sh (r:List Int) (k q:Nat):gY r (k+q)=(gY r q).sh k:=by
 unfold gY
 repeat' split
 all_goals simp only [Tk.sh,Nat.add_assoc]
theorem Sj (y l:List Int) (q:Nat):(y++l).drop (y.length+q)=l.drop q:=by
 rw [List.drop_append,List.drop_of_length_le (by omega),Nat.add_sub_cancel_left]
 rfl
theorem J4 (y l:List Int) (q:Nat):tok (y++l) (y.length+q)=(tok l q).sh y.length:=by
 have e:ay (y++l) (y.length+q)=y.length+ay l q:=by unfold ay;rw [Sj,Nat.add_assoc]
 unfold tok
 rw [e,Sj,tokL_sh]
theorem goesB_sh (y l:List Int) (q:Nat):gG (y++l) (y.length+q)=gG l q:=by
 unfold gG
 have e1:decide (y.length+q<(y++l).length)=decide (q<l.length):=by
  rw [List.length_append]
  exact decide_eq_decide.2 ⟨fun h=>by omega,fun h=>by omega⟩
 have e2:(y++l).getD (y.length+q) 0=l.getD q 0:=by
  simp only [List.getD]
  rw [List.getElem?_append_right (by omega),Nat.add_sub_cancel_left]
 rw [e1,e2,Sj]
theorem Jo (y l:List Int): ∀(n:Nat) (md:Md) (t:Tk),rd (y++l) n (md.sh y.length) (t.sh y.length)=(rd l n md t).map (Rs.sh y.length)
 | 0,md,t=>by cases md<;>rfl
 | n+1,.expr,t=>by
  show rd (y++l) (n+1) .expr (t.sh y.length)=_
  have e1:tok (y++l) (t.sh y.length).stop=(tok l t.stop).sh y.length:=J4 y l t.stop
  have e2:tok (y++l) ((tok l t.stop).sh y.length).stop=(tok l (tok l t.stop).stop).sh y.length:=J4 y l _
  have ih:rd (y++l) n .expr ((tok l (tok l t.stop).stop).sh y.length)=_:=Jo y l n .expr (tok l (tok l t.stop).stop)
  simp only [rd]
  rw [e1,e2,ih]
  by_cases c:t.kind=3∧fZ (tok l t.stop).text=true
  ·rw [if_pos (show (t.sh y.length).kind=3∧fZ ((tok l t.stop).sh y.length).text=true from c),if_pos c]
   generalize rd l n .expr (tok l (tok l t.stop).stop)=x
   match x with
   | none=>rfl
   | some (.bad _ _)=>rfl
   | some (.ok _ _)=>rfl
  ·rw [if_neg (show¬((t.sh y.length).kind=3∧fZ ((tok l t.stop).sh y.length).text=true) from c),if_neg c]
   exact Jo y l n .cond t
 | n +1,.cond,t=>by
  show rd (y++l) (n+1) .cond (t.sh y.length)=_
  have ih:rd (y++l) n (.bin 1) (t.sh y.length)=_:=Jo y l n (.bin 1) t
  simp only [rd]
  rw [ih]
  generalize rd l n (.bin 1) t=x
  match x with
  | none=>rfl
  | some (.bad _ _)=>rfl
  | some (.ok a t1)=>
   have e1:tok (y++l) (t1.sh y.length).stop=(tok l t1.stop).sh y.length:=J4 y l t1.stop
   have ih1:rd (y++l) n .expr ((tok l t1.stop).sh y.length)=_:=Jo y l n .expr (tok l t1.stop)
   show (if (t1.sh y.length).text=iE then _ else _)=Option.map (Rs.sh y.length) (if t1.text=iE then _ else _)
   by_cases c:t1.text=iE
   ·rw [if_pos (show (t1.sh y.length).text=iE from c),if_pos c,e1,ih1]
    generalize rd l n .expr (tok l t1.stop)=z
    match z with
    | none=>rfl
    | some (.bad _ _)=>rfl
    | some (.ok b t2)=>
     have e2:tok (y++l) (t2.sh y.length).stop=(tok l t2.stop).sh y.length:=J4 y l t2.stop
     have ih2:rd (y++l) n .cond ((tok l t2.stop).sh y.length)=_:=Jo y l n .cond (tok l t2.stop)
     show (if (t2.sh y.length).text=o8 then _ else _)=Option.map (Rs.sh y.length) (if t2.text=o8 then _ else _)
     by_cases d:t2.text=o8
     ·rw [if_pos (show (t2.sh y.length).text=o8 from d),if_pos d,e2,ih2]
      generalize rd l n .cond (tok l t2.stop)=u
      match u with
      | none=>rfl
      | some (.bad _ _)=>rfl
      | some (.ok _ _)=>rfl
     ·rw [if_neg (show¬(t2.sh y.length).text=o8 from d),if_neg d]
      rfl
   ·rw [if_neg (show¬(t1.sh y.length).text=iE from c),if_neg c]
    rfl
 | n+1,.bin k,t=>by
  show rd (y++l) (n+1) (.bin k) (t.sh y.length)=_
  have ih:rd (y++l) n .iR (t.sh y.length)=_:=Jo y l n .iR t
  simp only [rd]
  rw [ih]
  generalize rd l n .iR t=x
  match x with
  | none=>rfl
  | some (.bad _ _)=>rfl
  | some (.ok a t1)=>exact Jo y l n (.loop k a) t1
 | n+1,.loop k left,t=>by
  show rd (y++l) (n+1) (.loop k (left.sh y.length)) (t.sh y.length)=_
  have e1:tok (y++l) (t.sh y.length).stop=(tok l t.stop).sh y.length:=J4 y l t.stop
  have ih:rd (y++l) n (.bin (dO t.text+1)) ((tok l t.stop).sh y.length)=_:=Jo y l n (.bin (dO t.text+1)) (tok l t.stop)
  simp only [rd]
  rw [e1,show dO (t.sh y.length).text=dO t.text from rfl,ih]
  by_cases c:k≤dO t.text
  ·rw [if_pos c,if_pos c]
   generalize rd l n (.bin (dO t.text+1)) (tok l t.stop)=x
   match x with
   | none=>rfl
   | some (.bad _ _)=>rfl
   | some (.ok b t2)=>exact Jo y l n (.loop k (.bin t.text t.start left b)) t2
  ·rw [if_neg c,if_neg c]
   rfl
 | n+1,.iR,t=>by
  show rd (y++l) (n+1) .iR (t.sh y.length)=_
  have e1:tok (y++l) (t.sh y.length).stop=(tok l t.stop).sh y.length:=J4 y l t.stop
  have eg:gG (y++l) (t.sh y.length).stop=gG l t.stop:=goesB_sh y l t.stop
  have iho:rd (y++l) n .iR ((tok l t.stop).sh y.length)=_:=Jo y l n .iR (tok l t.stop)
  have ihe:rd (y++l) n .expr ((tok l t.stop).sh y.length)=_:=Jo y l n .expr (tok l t.stop)
  simp only [rd]
  rw [e1,eg,iho,ihe]
  show (if t.kind=2 then _ else if t.kind=3 then _ else if¬jo t.text=ak then _ else if t.text=jy then _ else _)=_
  by_cases c2:t.kind=2
  ·rw [if_pos c2,if_pos c2]
   show (if t.over=true then _ else _)=_
   by_cases co:t.over=true
   ·rw [if_pos co,if_pos co];rfl
   ·rw [if_neg co,if_neg co]
    by_cases cg:gG l t.stop=true
    ·rw [if_pos cg,if_pos cg];rfl
    ·rw [if_neg cg,if_neg cg];rfl
  rw [if_neg c2,if_neg c2]
  by_cases c3:t.kind=3
  ·rw [if_pos c3,if_pos c3];rfl
  rw [if_neg c3,if_neg c3]
  by_cases cu: ¬jo t.text=ak
  ·rw [if_pos cu,if_pos cu]
   generalize rd l n .iR (tok l t.stop)=x
   match x with
   | none=>rfl
   | some (.bad _ _)=>rfl
   | some (.ok b t2)=>rfl
  rw [if_neg cu,if_neg cu]
  by_cases cp:t.text=jy
  ·rw [if_pos cp,if_pos cp]
   generalize rd l n .expr (tok l t.stop)=x
   match x with
   | none=>rfl
   | some (.bad _ _)=>rfl
   | some (.ok b t2)=>
    have e2:tok (y++l) (t2.sh y.length).stop=(tok l t2.stop).sh y.length:=J4 y l t2.stop
    show (if (t2.sh y.length).text=jw then _ else _)=Option.map (Rs.sh y.length) (if t2.text=jw then _ else _)
    by_cases d:t2.text=jw
    ·rw [if_pos (show (t2.sh y.length).text=jw from d),if_pos d,e2];rfl
    ·rw [if_neg (show¬(t2.sh y.length).text=jw from d),if_neg d];rfl
  ·rw [if_neg cp,if_neg cp];rfl
theorem pre_all (p:Int→Bool) (y:List Int): ∀r:List Int,pre p r=r.length→pre p (r++y)=r.length+pre p y
 | [],_=>by simp
 | c::r,h=>by
  unfold pre at h⊢
  by_cases hc:p c=true
  ·rw [List.takeWhile_cons_of_pos hc,List.length_cons,List.length_cons] at h
   have:=pre_all p y r (by unfold pre;omega)
   unfold pre at this
   rw [List.cons_append,List.takeWhile_cons_of_pos hc,List.length_cons,List.length_cons,this]
   omega
  ·rw [List.takeWhile_cons_of_neg hc] at h
   simp at h
theorem MZ {c:Int} {m:List Int} {s:ByteArray} (h:begins (c::m) s=true) (hs:0<s.size):s.data.toList.head? =some (UInt8.ofNat c.toNat):=by
 unfold begins at h
 simp only [Bool.and_eq_true,decide_eq_true_eq] at h
 have hd:s.data.toList=((c::m).take s.size).map fun n=>UInt8.ofNat n.toNat:=(congrArg (fun t:ByteArray=>t.data.toList) h.2).symm
 obtain ⟨j,hj⟩: ∃j,s.size=j+1:=⟨s.size - 1,by omega⟩
 rw [hd,hj]
 rfl
theorem Rx (l:List Int): ∀L1 L2:List ByteArray,(∀s∈L1,begins l s=false)→dJ l (L1++L2)=dJ l L2
 | [],_,_=>rfl
 | s::L1,L2,h=>by
  rw [List.cons_append]
  show (if begins l s=true then s else dJ l (L1++L2))=_
  rw [if_neg (by rw [h s (by simp)];decide)]
  exact Rx l L1 L2 fun t ht=>h t (by simp [ht])
theorem opB_paren (c:Int) (hc:c=40∨c=41) (m:List Int):mG (c::m)=dI [c]:=by
 have hh: ∀s∈aF.take 18,0<s.size∧s.data.toList.head?≠some 40∧s.data.toList.head?≠some 41:=by decide
 have e:aF=aF.take 18++aF.drop 18:=(List.take_append_drop 18 aF).symm
 unfold mG
 rw [e,Rx]
 ·have e2:aF.drop 18=jy::jw::aF.drop 20:=rfl
  rw [e2]
  have hb1:begins (40::m) jy=true:=by simp [begins,jy,dI,ByteArray.size]
  have hb2:begins (41::m) jw=true:=by simp [begins,jw,dI,ByteArray.size]
  have hb3: ¬begins (41::m) jy=true:=fun h=>by
   have:=MZ h (by decide)
   exact absurd this (by decide)
  rcases hc with rfl | rfl
  ·unfold dJ;rw [if_pos hb1];rfl
  ·unfold dJ;rw [if_neg hb3];unfold dJ;rw [if_pos hb2];rfl
 ·intro s hs
  obtain ⟨h1,h2,h3⟩:=hh s hs
  rcases hc with rfl | rfl
  ·cases hb:begins (40::m) s with
   | false=>rfl
   | true=>exact absurd (MZ hb h1) h2
  ·cases hb:begins (41::m) s with
   | false=>rfl
   | true=>exact absurd (MZ hb h1) h3
theorem Vj (c:Int) (hc:c=40∨c=41) (m:List Int) (q:Nat):gY (c::m) q=⟨4,q,q+1,dI [c],0,false⟩:=by
 have h1:fC (c::m)=0:=(iL _ _).same ⟨Nat.zero_le _,fun j hj=>absurd hj (by omega),fun _=>by rcases hc with rfl | rfl<;>simp [nameB,jh,jd]⟩
 have h2:cN (c::m)=0:=by rcases hc with rfl | rfl<;>simp [cN,jv,cB,gN,rN,pre,um,oG]
 have h3:=opB_paren c hc m
 rw [yF (by simp) (by omega) (by omega) (by rw [h3];rcases hc with rfl | rfl<;>decide),h3]
 congr 1
theorem tokL_kind {r:List Int} {q:Nat} (h:0<r.length): ¬(gY r q).kind=0:=by
 by_cases h1:0<fC r
 ·rw [zo h h1];show¬(3:Int)=0;decide
 by_cases h2:0<cN r
 ·rw [Au h h1 h2];show¬(2:Int)=0;decide
 by_cases h3:mG r=ak
 ·rw [Ar h h1 h2 h3];show¬(1:Int)=0;decide
 ·rw [yF h h1 h2 h3];show¬(4:Int)=0;decide
theorem unB_emp:jo ak=ak:=by decide
theorem RZ (l:List Int) (t:Tk) (hk:t.kind=0) (hx:t.text=ak) (n:Nat):
  (∀e t1,¬rd l n .iR t=some (.ok e t1))∧(∀k e t1,¬rd l n (.bin k) t=some (.ok e t1))∧(∀e t1,¬rd l n .cond t=some (.ok e t1))∧(∀e t1,¬rd l n .expr t=some (.ok e t1)):=by
 have ho: ∀n e t1,¬rd l n .iR t=some (.ok e t1):=by
  intro n e t1 h
  cases n with
  | zero=>simp [rd] at h
  | succ n=>
   simp only [rd] at h
   rw [if_neg (by omega),if_neg (by omega),if_neg (by rw [hx,unB_emp];simp),if_neg (by rw [hx];decide)] at h
   simp [refuse] at h
 have hb: ∀n k e t1,¬rd l n (.bin k) t=some (.ok e t1):=by
  intro n k e t1 h
  cases n with
  | zero=>simp [rd] at h
  | succ n=>
   simp only [rd] at h
   generalize hy:rd l n .iR t=y at h
   match y,hy,h with
   | none,_,h=>simp at h
   | some (.bad _ _),_,h=>simp at h
   | some (.ok _ _),hy,_=>exact ho _ _ _ hy
 have hc: ∀n e t1,¬rd l n .cond t=some (.ok e t1):=by
  intro n e t1 h
  cases n with
  | zero=>simp [rd] at h
  | succ n=>
   simp only [rd] at h
   generalize hy:rd l n (.bin 1) t=y at h
   match y,hy,h with
   | none,_,h=>simp at h
   | some (.bad _ _),_,h=>simp at h
   | some (.ok _ _),hy,_=>exact hb _ _ _ _ hy
 refine ⟨ho n,hb n,hc n,?_⟩
 intro e t1 h
 cases n with
 | zero=>simp [rd] at h
 | succ n=>
  simp only [rd] at h
  rw [if_neg (by omega)] at h
  exact hc _ _ _ h
end Go.Proofs.YtacfglopionkfaaGreatDoor
