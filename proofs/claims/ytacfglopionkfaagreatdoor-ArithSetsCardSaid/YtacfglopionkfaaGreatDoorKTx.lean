import Derived.Test.YtacfglopionkfaaGreatDoorKWr
import Derived.Lib.ItoaLen
namespace Go.Proofs.YtacfglopionkfaaGreatDoor
open Go.RowKit
def qp (op nm:ByteArray) (ks:List (List UInt8)):List UInt8:=
 (⟨#[40]⟩++op:ByteArray).data.toList++(if nm=ak then [] else (⟨#[32]⟩++nm:ByteArray).data.toList)++(ks.map fun k=>(32:UInt8)::k).flatten++[41]
def txt:Tr→List UInt8
 | .num n _=>Lib.itoa n
 | .name s _=>s.data.toList
 | .un op _ a=>qp op ak [txt a]
 | .bin op _ a b=>qp op ak [txt a,txt b]
 | .cond op _ a b c=>qp op ak [txt a,txt b,txt c]
 | .eF op s _ _ a=>qp op s [txt a]
theorem zy (s:ByteArray):s.data.toList.length=s.size:=Array.length_toList
theorem pJ (op nm:ByteArray) (ks:List (List UInt8)):(qp op nm ks).length≤3+op.size+nm.size+(ks.map fun k=>k.length+1).sum:=by
 unfold qp
 have e1:(⟨#[40]⟩++op:ByteArray).size=1+op.size:=ByteArray.size_append
 have e2:(⟨#[32]⟩++nm:ByteArray).size=1+nm.size:=ByteArray.size_append
 have e3:(ks.map fun k=>(32:UInt8)::k).flatten.length=(ks.map fun k=>k.length+1).sum:=by
  rw [List.length_flatten,List.map_map]
  rfl
 simp only [List.length_append,zy,e1,e3,List.length_singleton]
 split
 ·simp only [List.length_nil];omega
 ·simp only [zy,e2];omega
structure Tk.Sz (l:List Int) (t:Tk):Prop where
 tx:t.text.size≤t.stop - t.start
 ok:t.Ok l
 nm:t.Nm
theorem eP (l:List Int) (p:Nat):(tok l p).Sz l:=by
 refine ⟨?_,jS l p,jT l p⟩
 unfold tok
 generalize ay l p=q
 generalize l.drop q=r
 have h00:ak.size=0:=rfl
 by_cases h0:r.length=0
 ·have e:gY r q=⟨0,q,q,ak,0,false⟩:=by unfold gY;rw [if_pos h0]
  rw [e]
  exact Nat.zero_le _
 have h0:0<r.length:=by omega
 by_cases h1:0<fC r
 ·rw [zo h0 h1]
  show (dI (r.take (fC r))).size≤q+fC r - q
  rw [jP,List.length_take]
  omega
 by_cases h2:0<cN r
 ·rw [Au h0 h1 h2]
  exact Nat.zero_le _
 by_cases h3:mG r=ak
 ·rw [Ar h0 h1 h2 h3]
  exact Nat.zero_le _
 ·rw [yF h0 h1 h2 h3]
  show (mG r).size≤q+(mG r).size - q
  omega
theorem vO {l:List Int} {t:Tk} (h:t.Sz l) (hk:t.kind=2∨t.kind=3∨t.kind=4):mu l (tok l t.stop)+t.text.size≤mu l t∧mu l (tok l t.stop)+1≤mu l t:=by
 refine ⟨?_,Bq h.ok hk⟩
 obtain ⟨a,b⟩:=h.ok.run hk
 have:=yL l t.stop
 have:=h.tx
 unfold mu
 omega
theorem jl {l:List Int} {t:Tk} (h:t.Sz l) (hk: ¬t.text=ak):mu l (tok l t.stop)+t.text.size≤mu l t∧mu l (tok l t.stop)+1≤mu l t:=
 vO h (Or.inr (h.ok.txt hk))
theorem Kz (s:ByteArray):(jo s).size≤2:=by
 unfold jo
 split
 ·rename_i c
  rcases c with rfl | rfl<;>decide
 ·split
  ·rename_i c
   rcases c with rfl | rfl<;>decide
  ·decide
def Md.len:Md→Nat
 | .loop _ t=>(txt t).length
 | _=>0
theorem jV (l:List Int): ∀(n:Nat) (md:Md) (t:Tk),t.Sz l→md.Ok→ ∀e t',rd l n md t=some (.ok e t')→t'.Sz l∧(txt e).length+32*mu l t'≤md.len+32*mu l t
 | 0,md,t,_,_,e,t',h=>by cases md<;>simp [rd] at h
 | n+1,.expr,t,ht,_,e,t',h=>by
  simp only [rd] at h
  by_cases c:t.kind=3∧fZ (tok l t.stop).text=true
  ·rw [if_pos c] at h
   generalize hx:rd l n .expr (tok l (tok l t.stop).stop)=x at h
   match x,hx,h with
   | some (.ok a t1),hx,h=>
    simp only [Option.some.injEq,Rs.ok.injEq] at h
    obtain ⟨rfl,rfl⟩:=h
    obtain ⟨h1,ha⟩:=jV l n .expr _ (eP _ _) trivial _ _ hx
    have m1:=vO ht (Or.inr (Or.inl c.1))
    have m2:=jl (eP l t.stop) (og c.2)
    have:=pJ (tok l t.stop).text t.text [txt a]
    simp only [List.map_cons,List.map_nil,List.sum_cons,List.sum_nil] at this
    refine ⟨h1,?_⟩
    simp only [txt,Md.len] at ha⊢
    omega
  ·rw [if_neg c] at h
   exact jV l n .cond t ht trivial _ _ h
 | n + 1,.cond,t,ht,_,e,t',h=>by
  simp only [rd] at h
  generalize hx:rd l n (.bin 1) t=x at h
  match x,hx,h with
  | some (.ok a t1),hx,h=>
   obtain ⟨h1,ha⟩:=jV l n (.bin 1) t ht (Nat.le_refl 1) _ _ hx
   simp only [] at h
   by_cases c:t1.text=iE
   ·rw [if_pos c] at h
    have m1:=jl h1 (by rw [c];decide)
    generalize hy:rd l n .expr (tok l t1.stop)=y at h
    match y,hy,h with
    | some (.ok b t2),hy,h=>
     obtain ⟨h2,hb⟩:=jV l n .expr _ (eP _ _) trivial _ _ hy
     simp only [] at h
     by_cases d:t2.text=o8
     ·rw [if_pos d] at h
      have m2:=jl h2 (by rw [d];decide)
      generalize hz:rd l n .cond (tok l t2.stop)=z at h
      match z,hz,h with
      | some (.ok f t3),hz,h=>
       obtain ⟨h3,hf⟩:=jV l n .cond _ (eP _ _) trivial _ _ hz
       simp only [Option.some.injEq,Rs.ok.injEq] at h
       obtain ⟨rfl,rfl⟩:=h
       have:=pJ t1.text ak [txt a,txt b,txt f]
       simp only [List.map_cons,List.map_nil,List.sum_cons,List.sum_nil] at this
       have h00:ak.size=0:=rfl
       refine ⟨h3,?_⟩
       simp only [txt,Md.len] at ha hb hf⊢
       omega
     ·rw [if_neg d] at h
      simp [refuse] at h
   ·rw [if_neg c] at h
    simp only [Option.some.injEq,Rs.ok.injEq] at h
    obtain ⟨rfl,rfl⟩:=h
    exact ⟨h1,ha⟩
 | n+1,.bin k,t,ht,hk,e,t',h=>by
  simp only [rd] at h
  generalize hx:rd l n .iR t=x at h
  match x,hx,h with
  | some (.ok a t1),hx,h=>
   obtain ⟨h1,ha⟩:=jV l n .iR t ht trivial _ _ hx
   obtain ⟨h2,hb⟩:=jV l n (.loop k a) t1 h1 hk _ _ h
   refine ⟨h2,?_⟩
   simp only [Md.len] at ha hb⊢
   omega
 | n+1,.loop k left,t,ht,hk,e,t',h=>by
  simp only [rd] at h
  by_cases c:k≤dO t.text
  ·rw [if_pos c] at h
   have m1:=jl ht (oK hk c)
   generalize hx:rd l n (.bin (dO t.text+1)) (tok l t.stop)=x at h
   match x,hx,h with
   | some (.ok b t2),hx,h=>
    obtain ⟨h2,hb⟩:=jV l n (.bin (dO t.text+1)) _ (eP _ _) (Nat.le_add_left 1 _) _ _ hx
    obtain ⟨h3,hf⟩:=jV l n (.loop k (.bin t.text t.start left b)) t2 h2 hk _ _ h
    have:=pJ t.text ak [txt left,txt b]
    simp only [List.map_cons,List.map_nil,List.sum_cons,List.sum_nil] at this
    have h00:ak.size=0:=rfl
    refine ⟨h3,?_⟩
    simp only [txt,Md.len] at hb hf⊢
    omega
  ·rw [if_neg c] at h
   simp only [Option.some.injEq,Rs.ok.injEq] at h
   obtain ⟨rfl,rfl⟩:=h
   exact ⟨ht,Nat.le_refl _⟩
 | n +1,.iR,t,ht,_,e,t',h=>by
  simp only [rd] at h
  by_cases c2:t.kind=2
  ·rw [if_pos c2] at h
   have m1:=vO ht (Or.inl c2)
   by_cases co:t.over=true
   ·rw [if_pos co] at h;simp [refuse] at h
   ·rw [if_neg co] at h
    by_cases cg:gG l t.stop=true
    ·rw [if_pos cg] at h;simp at h
    ·rw [if_neg cg] at h
     simp only [Option.some.injEq,Rs.ok.injEq] at h
     obtain ⟨rfl,rfl⟩:=h
     have h0:=ht.nm.lo
     have:=Lib.itoa_length_le t.num (by omega) ht.nm.hi
     refine ⟨eP _ _,?_⟩
     simp only [txt,Md.len]
     omega
  rw [if_neg c2] at h
  by_cases c3:t.kind=3
  ·rw [if_pos c3] at h
   have m1:=vO ht (Or.inr (Or.inl c3))
   simp only [Option.some.injEq,Rs.ok.injEq] at h
   obtain ⟨rfl,rfl⟩:=h
   refine ⟨eP _ _,?_⟩
   simp only [txt,Md.len,zy]
   omega
  rw [if_neg c3] at h
  by_cases cu: ¬jo t.text=ak
  ·rw [if_pos cu] at h
   have m1:=jl ht (zG cu)
   generalize hx:rd l n .iR (tok l t.stop)=x at h
   match x,hx,h with
   | some (.ok a t1),hx,h=>
    simp only [Option.some.injEq,Rs.ok.injEq] at h
    obtain ⟨rfl,rfl⟩:=h
    obtain ⟨h1,ha⟩:=jV l n .iR _ (eP _ _) trivial _ _ hx
    have:=pJ (jo t.text) ak [txt a]
    simp only [List.map_cons,List.map_nil,List.sum_cons,List.sum_nil] at this
    have h00:ak.size=0:=rfl
    have:=Kz t.text
    refine ⟨h1,?_⟩
    simp only [txt,Md.len] at ha⊢
    omega
  rw [if_neg cu] at h
  by_cases cp:t.text=jy
  ·rw [if_pos cp] at h
   have m1:=jl ht (by rw [cp];decide)
   generalize hx:rd l n .expr (tok l t.stop)=x at h
   match x,hx,h with
   | some (.ok a t1),hx,h=>
    obtain ⟨h1,ha⟩:=jV l n .expr _ (eP _ _) trivial _ _ hx
    simp only [] at h
    by_cases cs:t1.text=jw
    ·rw [if_pos cs] at h
     have m2:=jl h1 (by rw [cs];decide)
     simp only [Option.some.injEq,Rs.ok.injEq] at h
     obtain ⟨rfl,rfl⟩:=h
     refine ⟨eP _ _,?_⟩
     simp only [Md.len] at ha⊢
     omega
    ·rw [if_neg cs] at h
     simp [refuse] at h
  ·rw [if_neg cp] at h
   simp [refuse] at h
theorem pW {l:List Int} {n:Nat} {e:Tr} {t:Tk} (h:cZ l n=some (.ok e t)):(txt e).length≤32768:=by
 obtain ⟨-,-,hl⟩:=lJ h
 unfold cZ at h
 rw [if_neg (by omega)] at h
 unfold mF at h
 generalize hx:rd l n .expr (tok l 0)=x at h
 match x,hx,h with
 | some (.ok a t1),hx,h=>
  obtain ⟨-,ha⟩:=jV l n .expr _ (eP _ _) trivial _ _ hx
  have hm:mu l (tok l 0)≤l.length:=Nat.sub_le _ _
  simp only [Md.len] at ha
  simp only [] at h
  by_cases c:t1.kind=0
  ·rw [if_pos c] at h
   simp only [Option.some.injEq,Rs.ok.injEq] at h
   obtain ⟨rfl,rfl⟩:=h
   omega
  ·rw [if_neg c] at h
   simp [refuse] at h
def jr (op:ByteArray):Nat:=if fZ op=true then 2 else 1
def sizeT:Tr→Nat
 | .num _ _=>jr mO
 | .name _ _=>jr jk
 | .un op _ a=>jr op+[sizeT a].sum
 | .bin op _ a b=>jr op+[sizeT a,sizeT b].sum
 | .cond op _ a b c=>jr op+[sizeT a,sizeT b,sizeT c].sum
 | .eF op _ _ _ a=>jr op+[sizeT a].sum
theorem lC (op nm:ByteArray) (ks:List (List UInt8)):2+op.size+(ks.map fun k=>k.length+1).sum≤(qp op nm ks).length:=by
 unfold qp
 have e1:(⟨#[40]⟩++op:ByteArray).size=1+op.size:=ByteArray.size_append
 have e3:(ks.map fun k=>(32:UInt8)::k).flatten.length=(ks.map fun k=>k.length+1).sum:=by
  rw [List.length_flatten,List.map_map]
  rfl
 simp only [List.length_append,zy,e1,e3,List.length_singleton]
 omega
theorem zL (op:ByteArray):jr op≤2:=by unfold jr;split<;>omega
theorem KJ {s:ByteArray} {k:Nat} (hk:1≤k) (h:k≤dO s):fZ s=false:=by
 unfold dO bG at h
 simp only [rowFrom,List.any_cons,List.any_nil,Bool.or_false,Bool.or_eq_true,decide_eq_true_eq] at h
 repeat' (split at h)
 all_goals first
  | omega
  | (rename_i hh;rcases hh with rfl | rfl | rfl | rfl<;>decide)
  | (rename_i hh;rcases hh with rfl | rfl | rfl<;>decide)
  | (rename_i hh;rcases hh with rfl | rfl<;>decide)
  | (rename_i hh;subst hh;decide)
theorem Po {s:ByteArray} {k:Nat} (hk:1≤k) (h:k≤dO s):jr s=1:=by unfold jr;rw [KJ hk h];rfl
theorem Pq (t:Tk) (h:t.text=iE):jr t.text=1:=by rw [h];decide
theorem UE (s:ByteArray):jr (jo s)=1:=by
 unfold jo
 split
 ·rename_i c
  rcases c with rfl | rfl<;>decide
 ·split
  ·rename_i c
   rcases c with rfl | rfl<;>decide
  ·decide
def Md.E8:Md→Nat
 | .loop _ t=>sizeT t
 | _=>0
theorem iU (l:List Int): ∀(n:Nat) (md:Md) (t:Tk),t.Sz l→md.Ok→ ∀e t',rd l n md t=some (.ok e t')→t'.Sz l∧sizeT e+mu l t'≤md.E8+mu l t
 | 0,md,t,_,_,e,t',h=>by cases md<;>simp [rd] at h
 | n+1,.expr,t,ht,_,e,t',h=>by
  simp only [rd] at h
  by_cases c:t.kind=3∧fZ (tok l t.stop).text=true
  ·rw [if_pos c] at h
   generalize hx:rd l n .expr (tok l (tok l t.stop).stop)=x at h
   match x,hx,h with
   | some (.ok a t1),hx,h=>
    simp only [Option.some.injEq,Rs.ok.injEq] at h
    obtain ⟨rfl,rfl⟩:=h
    obtain ⟨h1,ha⟩:=iU l n .expr _ (eP _ _) trivial _ _ hx
    have m1:=vO ht (Or.inr (Or.inl c.1))
    have m2:=jl (eP l t.stop) (og c.2)
    have:=zL (tok l t.stop).text
    refine ⟨h1,?_⟩
    simp only [sizeT,List.sum_cons,List.sum_nil,Md.E8] at ha⊢
    omega
  ·rw [if_neg c] at h
   exact iU l n .cond t ht trivial _ _ h
 | n + 1,.cond,t,ht,_,e,t',h=>by
  simp only [rd] at h
  generalize hx:rd l n (.bin 1) t=x at h
  match x,hx,h with
  | some (.ok a t1),hx,h=>
   obtain ⟨h1,ha⟩:=iU l n (.bin 1) t ht (Nat.le_refl 1) _ _ hx
   simp only [] at h
   by_cases c:t1.text=iE
   ·rw [if_pos c] at h
    have m1:=jl h1 (by rw [c];decide)
    generalize hy:rd l n .expr (tok l t1.stop)=y at h
    match y,hy,h with
    | some (.ok b t2),hy,h=>
     obtain ⟨h2,hb⟩:=iU l n .expr _ (eP _ _) trivial _ _ hy
     simp only [] at h
     by_cases d:t2.text=o8
     ·rw [if_pos d] at h
      have m2:=jl h2 (by rw [d];decide)
      generalize hz:rd l n .cond (tok l t2.stop)=z at h
      match z,hz,h with
      | some (.ok f t3),hz,h=>
       have:=Pq t1 c
       obtain ⟨h3,hf⟩:=iU l n .cond _ (eP _ _) trivial _ _ hz
       simp only [Option.some.injEq,Rs.ok.injEq] at h
       obtain ⟨rfl,rfl⟩:=h
       refine ⟨h3,?_⟩
       simp only [sizeT,List.sum_cons,List.sum_nil,Md.E8] at ha hb hf⊢
       omega
     ·rw [if_neg d] at h
      simp [refuse] at h
   ·rw [if_neg c] at h
    simp only [Option.some.injEq,Rs.ok.injEq] at h
    obtain ⟨rfl,rfl⟩:=h
    exact ⟨h1,ha⟩
 | n+1,.bin k,t,ht,hk,e,t',h=>by
  simp only [rd] at h
  generalize hx:rd l n .iR t=x at h
  match x,hx,h with
  | some (.ok a t1),hx,h=>
   obtain ⟨h1,ha⟩:=iU l n .iR t ht trivial _ _ hx
   obtain ⟨h2,hb⟩:=iU l n (.loop k a) t1 h1 hk _ _ h
   refine ⟨h2,?_⟩
   simp only [Md.E8] at ha hb⊢
   omega
 | n+1,.loop k left,t,ht,hk,e,t',h=>by
  simp only [rd] at h
  by_cases c:k≤dO t.text
  ·rw [if_pos c] at h
   have m1:=jl ht (oK hk c)
   generalize hx:rd l n (.bin (dO t.text+1)) (tok l t.stop)=x at h
   match x,hx,h with
   | some (.ok b t2),hx,h=>
    have:=Po hk c
    obtain ⟨h2,hb⟩:=iU l n (.bin (dO t.text+1)) _ (eP _ _) (Nat.le_add_left 1 _) _ _ hx
    obtain ⟨h3,hf⟩:=iU l n (.loop k (.bin t.text t.start left b)) t2 h2 hk _ _ h
    refine ⟨h3,?_⟩
    simp only [sizeT,List.sum_cons,List.sum_nil,Md.E8] at hb hf⊢
    omega
  ·rw [if_neg c] at h
   simp only [Option.some.injEq,Rs.ok.injEq] at h
   obtain ⟨rfl,rfl⟩:=h
   exact ⟨ht,Nat.le_refl _⟩
 | n +1,.iR,t,ht,_,e,t',h=>by
  simp only [rd] at h
  by_cases c2:t.kind=2
  ·rw [if_pos c2] at h
   have m1:=vO ht (Or.inl c2)
   by_cases co:t.over=true
   ·rw [if_pos co] at h;simp [refuse] at h
   ·rw [if_neg co] at h
    by_cases cg:gG l t.stop=true
    ·rw [if_pos cg] at h;simp at h
    ·rw [if_neg cg] at h
     simp only [Option.some.injEq,Rs.ok.injEq] at h
     obtain ⟨rfl,rfl⟩:=h
     have:jr mO=1:=by decide
     refine ⟨eP _ _,?_⟩
     simp only [sizeT,Md.E8]
     omega
  rw [if_neg c2] at h
  by_cases c3:t.kind=3
  ·rw [if_pos c3] at h
   have m1:=vO ht (Or.inr (Or.inl c3))
   simp only [Option.some.injEq,Rs.ok.injEq] at h
   obtain ⟨rfl,rfl⟩:=h
   refine ⟨eP _ _,?_⟩
   have:jr jk=1:=by decide
   simp only [sizeT,Md.E8]
   omega
  rw [if_neg c3] at h
  by_cases cu: ¬jo t.text=ak
  ·rw [if_pos cu] at h
   have m1:=jl ht (zG cu)
   generalize hx:rd l n .iR (tok l t.stop)=x at h
   match x,hx,h with
   | some (.ok a t1),hx,h=>
    simp only [Option.some.injEq,Rs.ok.injEq] at h
    obtain ⟨rfl,rfl⟩:=h
    obtain ⟨h1,ha⟩:=iU l n .iR _ (eP _ _) trivial _ _ hx
    have:=UE t.text
    refine ⟨h1,?_⟩
    simp only [sizeT,List.sum_cons,List.sum_nil,Md.E8] at ha⊢
    omega
  rw [if_neg cu] at h
  by_cases cp:t.text=jy
  ·rw [if_pos cp] at h
   have m1:=jl ht (by rw [cp];decide)
   generalize hx:rd l n .expr (tok l t.stop)=x at h
   match x,hx,h with
   | some (.ok a t1),hx,h=>
    obtain ⟨h1,ha⟩:=iU l n .expr _ (eP _ _) trivial _ _ hx
    simp only [] at h
    by_cases cs:t1.text=jw
    ·rw [if_pos cs] at h
     have m2:=jl h1 (by rw [cs];decide)
     simp only [Option.some.injEq,Rs.ok.injEq] at h
     obtain ⟨rfl,rfl⟩:=h
     refine ⟨eP _ _,?_⟩
     simp only [Md.E8] at ha⊢
     omega
    ·rw [if_neg cs] at h
     simp [refuse] at h
  ·rw [if_neg cp] at h
   simp [refuse] at h
theorem G8 (t:Tr):1≤sizeT t:=by
 have h: ∀s,1≤jr s:=fun s=>by unfold jr;split<;>omega
 cases t<;>simp only [sizeT]<;>first | exact h _ | exact Nat.le_trans (h _) (Nat.le_add_right _ _)
theorem oP {l:List Int} {n:Nat} {e:Tr} {t:Tk} (h:cZ l n=some (.ok e t)):1≤sizeT e∧sizeT e≤l.length:=by
 refine ⟨G8 e,?_⟩
 obtain ⟨-,-,hl⟩:=lJ h
 unfold cZ at h
 rw [if_neg (by omega)] at h
 unfold mF at h
 generalize hx:rd l n .expr (tok l 0)=x at h
 match x,hx,h with
 | some (.ok a t1),hx,h=>
  obtain ⟨-,ha⟩:=iU l n .expr _ (eP _ _) trivial _ _ hx
  have hm:mu l (tok l 0)≤l.length:=Nat.sub_le _ _
  simp only [Md.E8] at ha
  simp only [] at h
  by_cases c:t1.kind=0
  ·rw [if_pos c] at h
   simp only [Option.some.injEq,Rs.ok.injEq] at h
   obtain ⟨rfl,rfl⟩:=h
   omega
  ·rw [if_neg c] at h
   simp [refuse] at h
end Go.Proofs.YtacfglopionkfaaGreatDoor
