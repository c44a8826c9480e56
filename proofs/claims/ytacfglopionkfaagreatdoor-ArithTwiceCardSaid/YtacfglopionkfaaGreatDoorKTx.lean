import Derived.Test.YtacfglopionkfaaGreatDoorKWr
import Derived.Lib.ItoaLen
namespace Go.Proofs.YtacfglopionkfaaGreatDoor
set_option maxRecDepth 100000
open Go.RowKit
def qp (op nm:ByteArray) (ks:List (List UInt8)):List UInt8:=
 (⟨#[40]⟩++op:ByteArray).data.toList++(if nm=ak then [] else (⟨#[32]⟩++nm:ByteArray).data.toList)++(ks.map fun k=>(32:UInt8)::k).flatten++[41]
def txt:Tr→List UInt8
 | .num n _=>Lib.itoa n
 | .name s _=>s.data.toList
 | .un op _ a=>qp op ak [txt a]
 | .bin op _ a b=>qp op ak [txt a,txt b]
 | .cond op _ a b c=>qp op ak [txt a,txt b,txt c]
 | .eF op s _ _ a=>qp op s [txt a]
theorem zy (s:ByteArray):s.data.toList.length=s.size:=Array.length_toList
theorem pJ (op nm:ByteArray) (ks:List (List UInt8)):(qp op nm ks).length≤3+op.size+nm.size+(ks.map fun k=>k.length+1).sum:=by
 unfold qp
 have e1:(⟨#[40]⟩++op:ByteArray).size=1+op.size:=ByteArray.size_append
 have e2:(⟨#[32]⟩++nm:ByteArray).size=1+nm.size:=ByteArray.size_append
 have e3:(ks.map fun k=>(32:UInt8)::k).flatten.length=(ks.map fun k=>k.length+1).sum:=by
  rw [List.length_flatten,List.map_map]
  rfl
 simp only [List.length_append,zy,e1,e3,List.length_singleton]
 split
 ·simp only [List.length_nil];omega
 ·simp only [zy,e2];omega
structure Tk.Sz (l:List Int) (t:Tk):Prop where
 tx:t.text.size≤t.stop - t.start
 ok:t.Ok l
 nm:t.Nm
theorem eP (l:List Int) (p:Nat):(tok l p).Sz l:=by
 refine ⟨?_,jS l p,jT l p⟩
 unfold tok
 generalize ay l p=q
 generalize l.drop q=r
 have h00:ak.size=0:=rfl
 by_cases h0:r.length=0
 ·have e:gY r q=⟨0,q,q,ak,0,false⟩:=by unfold gY;rw [if_pos h0]
  rw [e]
  exact Nat.zero_le _
 have h0:0<r.length:=by omega
 by_cases h1:0<fC r
 ·rw [zo h0 h1]
  show (dI (r.take (fC r))).size≤q+fC r - q
  rw [jP,List.length_take]
  omega
 by_cases h2:0<cN r
 ·rw [Au h0 h1 h2]
  exact Nat.zero_le _
 by_cases h3:mG r=ak
 ·rw [Ar h0 h1 h2 h3]
  exact Nat.zero_le _
 ·rw [yF h0 h1 h2 h3]
  show (mG r).size≤q+(mG r).size - q
  omega
theorem vO {l:List Int} {t:Tk} (h:t.Sz l) (hk:t.kind=2∨t.kind=3∨t.kind=4):mu l (tok l t.stop)+t.text.size≤mu l t∧mu l (tok l t.stop)+1≤mu l t:=by
 refine ⟨?_,Bq h.ok hk⟩
 obtain ⟨a,b⟩:=h.ok.run hk
 have:=yL l t.stop
 have:=h.tx
 unfold mu
 omega
theorem jl {l:List Int} {t:Tk} (h:t.Sz l) (hk: ¬t.text=ak):mu l (tok l t.stop)+t.text.size≤mu l t∧mu l (tok l t.stop)+1≤mu l t:=
 vO h (Or.inr (h.ok.txt hk))
theorem Kz (s:ByteArray):(jo s).size≤2:=by
 unfold jo
 split
 ·rename_i c
  rcases c with rfl | rfl<;>decide
 ·split
  ·rename_i c
   rcases c with rfl | rfl<;>decide
  ·decide
def Md.len:Md→Nat
 | .loop _ t=>(txt t).length
 | _=>0
theorem jV (l:List Int): ∀(n:Nat) (md:Md) (t:Tk),t.Sz l→md.Ok→ ∀e t',rd l n md t=some (.ok e t')→t'.Sz l∧(txt e).length+32*mu l t'≤md.len+32*mu l t
 | 0,md,t,_,_,e,t',h=>by cases md<;>simp [rd] at h
 | n+1,.expr,t,ht,_,e,t',h=>by
  simp only [rd] at h
  by_cases c:t.kind=3∧fZ (tok l t.stop).text=true
  ·rw [if_pos c] at h
   generalize hx:rd l n .expr (tok l (tok l t.stop).stop)=x at h
   match x,hx,h with
   | some (.ok a t1),hx,h=>
    simp only [Option.some.injEq,Rs.ok.injEq] at h
    obtain ⟨rfl,rfl⟩:=h
    obtain ⟨h1,ha⟩:=jV l n .expr _ (eP _ _) trivial _ _ hx
    have m1:=vO ht (Or.inr (Or.inl c.1))
    have m2:=jl (eP l t.stop) (og c.2)
    have:=pJ (tok l t.stop).text t.text [txt a]
    simp only [List.map_cons,List.map_nil,List.sum_cons,List.sum_nil] at this
    refine ⟨h1,?_⟩
    simp only [txt,Md.len] at ha⊢
    omega
  ·rw [if_neg c] at h
   exact jV l n .cond t ht trivial _ _ h
 | n + 1,.cond,t,ht,_,e,t',h=>by
  simp only [rd] at h
  generalize hx:rd l n (.bin 1) t=x at h
  match x,hx,h with
  | some (.ok a t1),hx,h=>
   obtain ⟨h1,ha⟩:=jV l n (.bin 1) t ht (Nat.le_refl 1) _ _ hx
   simp only [] at h
   by_cases c:t1.text=iE
   ·rw [if_pos c] at h
    have m1:=jl h1 (by rw [c];decide)
    generalize hy:rd l n .expr (tok l t1.stop)=y at h
    match y,hy,h with
    | some (.ok b t2),hy,h=>
     obtain ⟨h2,hb⟩:=jV l n .expr _ (eP _ _) trivial _ _ hy
     simp only [] at h
     by_cases d:t2.text=o8
     ·rw [if_pos d] at h
      have m2:=jl h2 (by rw [d];decide)
      generalize hz:rd l n .cond (tok l t2.stop)=z at h
      match z,hz,h with
      | some (.ok f t3),hz,h=>
       obtain ⟨h3,hf⟩:=jV l n .cond _ (eP _ _) trivial _ _ hz
       simp only [Option.some.injEq,Rs.ok.injEq] at h
       obtain ⟨rfl,rfl⟩:=h
       have:=pJ t1.text ak [txt a,txt b,txt f]
       simp only [List.map_cons,List.map_nil,List.sum_cons,List.sum_nil] at this
       have h00:ak.size=0:=rfl
       refine ⟨h3,?_⟩
       simp only [txt,Md.len] at ha hb hf⊢
       omega
     ·rw [if_neg d] at h
      simp [refuse] at h
   ·rw [if_neg c] at h
    simp only [Option.some.injEq,Rs.ok.injEq] at h
    obtain ⟨rfl,rfl⟩:=h
    exact ⟨h1,ha⟩
 | n+1,.bin k,t,ht,hk,e,t',h=>by
  simp only [rd] at h
  generalize hx:rd l n .iR t=x at h
  match x,hx,h with
  | some (.ok a t1),hx,h=>
   obtain ⟨h1,ha⟩:=jV l n .iR t ht trivial _ _ hx
   obtain ⟨h2,hb⟩:=jV l n (.loop k a) t1 h1 hk _ _ h
   refine ⟨h2,?_⟩
   simp only [Md.len] at ha hb⊢
   omega
 | n+1,.loop k left,t,ht,hk,e,t',h=>by
  simp only [rd] at h
  by_cases c:k≤dO t.text
  ·rw [if_pos c] at h
   have m1:=jl ht (oK hk c)
   generalize hx:rd l n (.bin (dO t.text+1)) (tok l t.stop)=x at h
   match x,hx,h with
   | some (.ok b t2),hx,h=>
    obtain ⟨h2,hb⟩:=jV l n (.bin (dO t.text+1)) _ (eP _ _) (Nat.le_add_left 1 _) _ _ hx
    obtain ⟨h3,hf⟩:=jV l n (.loop k (.bin t.text t.start left b)) t2 h2 hk _ _ h
    have:=pJ t.text ak [txt left,txt b]
    simp only [List.map_cons,List.map_nil,List.sum_cons,List.sum_nil] at this
    have h00:ak.size=0:=rfl
    refine ⟨h3,?_⟩
    simp only [txt,Md.len] at hb hf⊢
    omega
  ·rw [if_neg c] at h
   simp only [Option.some.injEq,Rs.ok.injEq] at h
   obtain ⟨rfl,rfl⟩:=h
   exact ⟨ht,Nat.le_refl _⟩
 | n +1,.iR,t,ht,_,e,t',h=>by
  simp only [rd] at h
  by_cases c2:t.kind=2
  ·rw [if_pos c2] at h
   have m1:=vO ht (Or.inl c2)
   by_cases co:t.over=true
   ·rw [if_pos co] at h;simp [refuse] at h
   ·rw [if_neg co] at h
    by_cases cg:gG l t.stop=true
    ·rw [if_pos cg] at h;simp at h
    ·rw [if_neg cg] at h
     simp only [Option.some.injEq,Rs.ok.injEq] at h
     obtain ⟨rfl,rfl⟩:=h
     have h0:=ht.nm.lo
     have:=Lib.itoa_length_le t.num (by omega) ht.nm.hi
     refine ⟨eP _ _,?_⟩
     simp only [txt,Md.len]
     omega
  rw [if_neg c2] at h
  by_cases c3:t.kind=3
  ·rw [if_pos c3] at h
   have m1:=vO ht (Or.inr (Or.inl c3))
   simp only [Option.some.injEq,Rs.ok.injEq] at h
   obtain ⟨rfl,rfl⟩:=h
   refine ⟨eP _ _,?_⟩
   simp only [txt,Md.len,zy]
   omega
  rw [if_neg c3] at h
  by_cases cu: ¬jo t.text=ak
  ·rw [if_pos cu] at h
   have m1:=jl ht (zG cu)
   generalize hx:rd l n .iR (tok l t.stop)=x at h
   match x,hx,h with
   | some (.ok a t1),hx,h=>
    simp only [Option.some.injEq,Rs.ok.injEq] at h
    obtain ⟨rfl,rfl⟩:=h
    obtain ⟨h1,ha⟩:=jV l n .iR _ (eP _ _) trivial _ _ hx
    have:=pJ (jo t.text) ak [txt a]
    simp only [List.map_cons,List.map_nil,List.sum_cons,List.sum_nil] at this
    have h00:ak.size=0:=rfl
    have:=Kz t.text
    refine ⟨h1,?_⟩
    simp only [txt,Md.len] at ha⊢
    omega
  rw [if_neg cu] at h
  by_cases cp:t.text=jy
  ·rw [if_pos cp] at h
   have m1:=jl ht (by rw [cp];decide)
   generalize hx:rd l n .expr (tok l t.stop)=x at h
   match x,hx,h with
   | some (.ok a t1),hx,h=>
    obtain ⟨h1,ha⟩:=jV l n .expr _ (eP _ _) trivial _ _ hx
    simp only [] at h
    by_cases cs:t1.text=jw
    ·rw [if_pos cs] at h
     have m2:=jl h1 (by rw [cs];decide)
     simp only [Option.some.injEq,Rs.ok.injEq] at h
     obtain ⟨rfl,rfl⟩:=h
     refine ⟨eP _ _,?_⟩
     simp only [Md.len] at ha⊢
     omega
    ·rw [if_neg cs] at h
     simp [refuse] at h
  ·rw [if_neg cp] at h
   simp [refuse] at h
theorem pW {l:List Int} {n:Nat} {e:Tr} {t:Tk} (h:cZ l n=some (.ok e t)):(txt e).length≤32768:=by
 obtain ⟨-,-,hl⟩:=lJ h
 unfold cZ at h
 rw [if_neg (by omega)] at h
 unfold mF at h
 generalize hx:rd l n .expr (tok l 0)=x at h
 match x,hx,h with
 | some (.ok a t1),hx,h=>
  obtain ⟨-,ha⟩:=jV l n .expr _ (eP _ _) trivial _ _ hx
  have hm:mu l (tok l 0)≤l.length:=Nat.sub_le _ _
  simp only [Md.len] at ha
  simp only [] at h
  by_cases c:t1.kind=0
  ·rw [if_pos c] at h
   simp only [Option.some.injEq,Rs.ok.injEq] at h
   obtain ⟨rfl,rfl⟩:=h
   omega
  ·rw [if_neg c] at h
   simp [refuse] at h
def IW (w:World) (b:Nat) (n:Int):Prop:=w.heap[b]? =some (.cells #[.int .i64 n] 3)
theorem Vg {w:World} {b:Nat} {n:Int} (h:IW w b n):w.cell? ⟨b,0,none⟩=some (.int .i64 n)∧w.frozen? ⟨b,0,none⟩=false:=by
 unfold IW at h
 refine ⟨?_,?_⟩<;>simp [World.cell?,World.frozen?,h]
theorem aaT {w:World} {b:Nat} {n m:Int} (h:IW w b n):IW (w.setCell ⟨b,0,none⟩ (.int .i64 m)) b m:=aU h 0 _
theorem Gy {w:World} {b:Nat} {n:Int} (h:IW w b n) (o:Obj):IW (w.alloc o) b n:=(((Below.refl _ _).alloc (Nat.le_refl _) o).block b (Gx h)).trans h
def jr (op:ByteArray):Nat:=if fZ op=true then 2 else 1
set_option maxHeartbeats 2000000 in
theorem see_any (b:Nat) (c:Int) (op nm:ByteArray) (v p q:Int) (a:Option Addr) (m:Nat) (w:World) (hc:IW w b c) (hs:op.size≤9223372036854775807) (h0:0≤c) (hm:c+2≤9223372036854775807):
  Calls Tryz.prog 60 #[.agg #[.string op,.int .i64 v,.string nm,.int .i64 p,.int .i64 q,.slice a m m],.pointer (some ⟨b,0,none⟩)] w fun e w'=>e= .returned (.tuple #[])∧IW w' b (c+jr op)∧Qp b w w'∧(∀W0:World,Below W0.heap.size W0 w→W0.heap.size≤b→Below W0.heap.size W0 w'):=by
 have hb:=Gx hc
 have Nu:=Lib.hid hc
 have h1: -9223372036854775808≤c+1:=by omega
 have h2:c+1≤9223372036854775807:=by omega
 have ou:Hid (IW (w.alloc (.cells #[.string op,.int .i64 v,.string nm,.int .i64 p,.int .i64 q,.slice a m m] 30)) b c):=Lib.hid (Gy hc _)
 obtain ⟨d1,d2⟩:=Vg ou.out
 clear hc
 cases hq:fZ op
 ·have HA:Hid (fZ op=false):=Lib.hid hq
  clear hq
  go_enter Tryz.func60,Tryz.ntmps60
  go_wp2_with fail
  refine (kZ op _ hs).mono ?_
  rintro e w1 ⟨rfl,hw1⟩
  have HC2:Hid (IW w1 b (c+1)):=Lib.hid (by rw [←hw1];exact Gy (aaT Nu.out) _)
  have Ai:Hid (Qp b w w1):=Lib.hid (by rw [←hw1];exact ((Qp.refl b w).set 0 _).trans (Qp.below ((Below.refl _ _).alloc (Nat.le_refl _) _)))
  have HS2:Hid (∀W0:World,Below W0.heap.size W0 w→W0.heap.size≤b→Below W0.heap.size W0 w1):=Lib.hid (by rw [←hw1];exact fun W0 h hB=>(h.setCell (p:=⟨b,0,none⟩) hB _).alloc (by have:=h.size;simpa using this) _)
  clear hw1
  rw [HA.out]
  go_wp2_with fail
  go_end0
  exact ⟨rfl,by unfold jr;rw [HA.out];exact HC2.out,Ai.out,HS2.out⟩
 ·have HA:Hid (fZ op=true):=Lib.hid hq
  clear hq
  go_enter Tryz.func60,Tryz.ntmps60
  go_wp2_with fail
  refine (kZ op _ hs).mono ?_
  rintro e w1 ⟨rfl,hw1⟩
  have HC2:Hid (IW w1 b (c+1)):=Lib.hid (by rw [←hw1];exact Gy (aaT Nu.out) _)
  have Ai:Hid (Qp b w w1):=Lib.hid (by rw [←hw1];exact ((Qp.refl b w).set 0 _).trans (Qp.below ((Below.refl _ _).alloc (Nat.le_refl _) _)))
  have HS2:Hid (∀W0:World,Below W0.heap.size W0 w→W0.heap.size≤b→Below W0.heap.size W0 w1):=Lib.hid (by rw [←hw1];exact fun W0 h hB=>(h.setCell (p:=⟨b,0,none⟩) hB _).alloc (by have:=h.size;simpa using this) _)
  clear hw1 d1 d2
  obtain ⟨d1,d2⟩:=Vg HC2.out
  have h3: -9223372036854775808≤c+1+1:=by omega
  have h4:c+1+1≤9223372036854775807:=by omega
  have hb1:=Gx HC2.out
  rw [HA.out]
  go_wp2_with fail
  go_end0
  exact ⟨rfl,by unfold jr;rw [HA.out];have h5:=aaT (m:=c+1+1) HC2.out;have e:c+1+1=c+((if true=true then 2 else 1:Nat):Int):=(by simp;omega);rw [←e];exact h5,Ai.out.trans ((Qp.refl b w1).set 0 _),fun W0 h hB=>(HS2.out W0 h hB).setCell (p:=⟨b,0,none⟩) hB _⟩
def Counts (W0:World) (b:Nat) (v:Value) (k:Nat):Prop:=
 ∀c w,Below W0.heap.size W0 w→IW w b c→0≤c→c+k+2≤9223372036854775807→
  Calls Tryz.prog 59 #[v,.func (.func 60) #[] #[.pointer (some ⟨b,0,none⟩)]] w fun e w'=>e= .returned (.tuple #[])∧IW w' b (c+k)∧Qp b w w'∧Below W0.heap.size W0 w'
set_option maxHeartbeats 2000000 in
theorem WT (W0:World) (b:Nat) (hB:W0.heap.size≤b) (op nm:ByteArray) (v p q:Int) (hs:op.size≤9223372036854775807):
  Counts W0 b (.agg #[.string op,.int .i64 v,.string nm,.int .i64 p,.int .i64 q,.slice none 0 0]) (jr op):=by
 intro c w hb hc h0 hm
 have hsz:=hb.size
 have HB:=Lib.hid hb
 have HC:=Lib.hid hc
 have ou:Hid (∀o,IW (w.alloc o) b c):=Lib.hid (fun o=>Gy hc o)
 have hbw:=Gx hc
 clear hb hc
 go_enter Tryz.func59,Tryz.ntmps59
 go_wp2_with fail
 have hcall:=see_any b c op nm v p q none 0 (w.alloc (.cells #[.string op,.int .i64 v,.string nm,.int .i64 p,.int .i64 q,.slice none 0 0] 30)) (ou.out _) hs h0 (by omega)
 refine hcall.mono ?_
 clear hcall
 rintro e w1 ⟨rfl,hc1,ho1,hb1⟩
 have Df:Hid (w1.heap[w.heap.size]? =some (.cells #[.string op,.int .i64 v,.string nm,.int .i64 p,.int .i64 q,.slice none 0 0] 30)):=Lib.hid (ho1 _ _ _ _ (heap_alloc_last w _) (by decide) (by omega))
 have HC2:=Lib.hid hc1
 have Ai:Hid (Qp b w w1):=Lib.hid ((Qp.below ((Below.refl _ _).alloc (Nat.le_refl _) _)).trans ho1)
 have HBb:Hid (Below W0.heap.size W0 w1):=Lib.hid (hb1 W0 (HB.out.alloc hsz _) hB)
 clear hc1 ho1 hb1
 obtain ⟨⟨c0,c1,c2,c3,c4,c5⟩,_⟩:=aA Df.out
 go_wp2_with fail
 go_loopg [5,12] 0 (fun g _ s12 wr=>g=0∧s12= .int .i64 0∧w1=wr)
 case atStart=>exact ⟨rfl,rfl,rfl⟩
 case round=>
  obtain ⟨_,rfl,rfl⟩:=hrel
  go_wp2_with fail
  go_end0
  exact ⟨rfl,HC2.out,Ai.out,HBb.out⟩
def KidsN (W0:World) (b blk:Nat) (ks:List Nat):Prop:=
 ∀i,i<ks.length→ ∃o v n p q kv,(W0.cell? ⟨blk,i*6,none⟩=some (.string o)∧W0.cell? ⟨blk,i*6+1,none⟩=some (.int .i64 v)∧W0.cell? ⟨blk,i*6+2,none⟩=some (.string n)∧W0.cell? ⟨blk,i*6+3,none⟩=some (.int .i64 p)∧W0.cell? ⟨blk,i*6+4,none⟩=some (.int .i64 q)∧W0.cell? ⟨blk,i*6+5,none⟩=some kv)∧(∃a m,kv= .slice a m m)∧
  Counts W0 b (.agg #[.string o,.int .i64 v,.string n,.int .i64 p,.int .i64 q,kv]) (ks.getD i 0)
def Qu (ks:List Nat) (k:Nat):Nat:=(ks.take k).sum
theorem WO (ks:List Nat) (k:Nat) (h:k<ks.length):Qu ks (k+1)=Qu ks k+ks.getD k 0:=by
 unfold Qu
 rw [List.take_succ_eq_append_getElem h,List.sum_append,List.getD,List.getElem?_eq_getElem h]
 simp
theorem sumK_all (ks:List Nat):Qu ks ks.length=ks.sum:=by unfold Qu;rw [List.take_length]
theorem sumK_le (ks:List Nat) (k:Nat):Qu ks k≤ks.sum:=by
 unfold Qu
 conv=>rhs;rw [←List.take_append_drop k ks]
 rw [List.sum_append]
 omega
set_option maxHeartbeats 4000000 in
theorem Si (W0:World) (b blk:Nat) (hB:W0.heap.size≤b) (op nm:ByteArray) (nv p q:Int) (ks:List Nat) (hks:KidsN W0 b blk ks) (hm:ks.length≤3) (hs:op.size≤9223372036854775807):
  Counts W0 b (.agg #[.string op,.int .i64 nv,.string nm,.int .i64 p,.int .i64 q,.slice (some ⟨blk,0,none⟩) ks.length ks.length]) (jr op+ks.sum):=by
 intro c w hb hc h0 hsum
 have hsz:=hb.size
 have HB:=Lib.hid hb
 have HC:=Lib.hid hc
 have HK:=Lib.hid hks
 have ou:Hid (∀o,IW (w.alloc o) b c):=Lib.hid (fun o=>Gy hc o)
 have hbw:=Gx hc
 obtain ⟨m,hmm⟩: ∃m,ks.length=m:=⟨_,rfl⟩
 rw [hmm] at hm
 have HM:=Lib.hid hmm
 have HS:=Lib.hid hs
 have hcall:=see_any b c op nm nv p q (some ⟨blk,0,none⟩) m (w.alloc (.cells #[.string op,.int .i64 nv,.string nm,.int .i64 p,.int .i64 q,.slice (some ⟨blk,0,none⟩) m m] 30)) (ou.out _) hs h0 (by unfold jr at hsum;split at hsum<;>omega)
 generalize hone:jr op=one at hcall hsum⊢
 have HSum:=Lib.hid hsum
 have HCall:=Lib.hid hcall
 rw [hmm]
 clear hb hc hks hmm hsum hcall hs hone
 go_enter Tryz.func59,Tryz.ntmps59
 go_wp2_with fail
 refine HCall.out.mono ?_
 rintro e w1 ⟨rfl,hc1,ho1,hb1⟩
 have Df:Hid (w1.heap[w.heap.size]? =some (.cells #[.string op,.int .i64 nv,.string nm,.int .i64 p,.int .i64 q,.slice (some ⟨blk,0,none⟩) m m] 30)):=Lib.hid (ho1 _ _ _ _ (heap_alloc_last w _) (by decide) (by omega))
 have HC2:=Lib.hid hc1
 have Ai:Hid (Qp b w w1):=Lib.hid ((Qp.below ((Below.refl _ _).alloc (Nat.le_refl _) _)).trans ho1)
 have HBb:Hid (Below W0.heap.size W0 w1):=Lib.hid (hb1 W0 (HB.out.alloc hsz _) hB)
 clear hc1 ho1 hb1 HCall
 obtain ⟨⟨c0,c1,c2,c3,c4,c5⟩,_⟩:=aA Df.out
 go_wp2_with fail
 clear c0 c1 c2 c3 c4 c5
 have H0:=Lib.hid h0
 go_loopg [5,12] m (fun g _ s12 wr=> ∃k:Nat,g=m - k∧k≤m∧s12= .int .i64 k∧Aside (IW wr b (c+one+Qu ks k))∧Aside (Below W0.heap.size W0 wr)∧Aside (Qp b w wr))
 case atStart=>exact ⟨0,by omega,by omega,rfl,(by show IW w1 b _;have:=HC2.out;simpa [Qu] using this),HBb.out,Ai.out⟩
 case round=>
  obtain ⟨k,hg,hk,rfl,A1,A2,A3⟩:=hrel
  have HG:=Lib.hid hg
  clear hg
  by_cases hlt:k<m
  ·have hki:(k:Int)<(m:Int):=by omega
   obtain ⟨o1,v1,n1,p1,q1,kv1,⟨x0,x1,x2,x3,x4,x5⟩,⟨ka,km,rfl⟩,hcs⟩:=HK.out k (by rw [HM.out];exact hlt)
   have HW:=Lib.hid hcs
   have HCt:=Lib.hid A1.out
   have HBe:=Lib.hid A2.out
   have HOt:=Lib.hid A3.out
   have hbr:=HBe.out.size
   clear A1 A2 A3 hcs
   have hc: ∀j u,W0.cell? ⟨blk,j,none⟩=some u→wr.cell? ⟨blk,j,none⟩=some u:=fun j u h=>cell_kept HBe.out h
   have y0:=hc _ _ x0
   have y1:=hc _ _ x1
   have y2:=hc _ _ x2
   have y3:=hc _ _ x3
   have y4:=hc _ _ x4
   have y5:=hc _ _ x5
   clear hc x0 x1 x2 x3 x4 x5
   go_wp2_with fail
   have hcall:=HW.out (c+one+Qu ks k) (wr.alloc (.cells #[.string o1,.int .i64 v1,.string n1,.int .i64 p1,.int .i64 q1,.slice ka km km] 30)) (HBe.out.alloc hbr _) (Gy HCt.out _) (by have:=H0.out;omega) (by
    have h1:=HSum.out
    have h2:=sumK_le ks (k+1)
    rw [WO ks k (by rw [HM.out];exact hlt)] at h2
    omega)
   refine hcall.mono ?_
   clear hcall
   rintro e w4 ⟨rfl,hc4,ho4,hb4⟩
   have Aq:Hid (IW w4 b (c+one+Qu ks (k+1))):=Lib.hid (by
    rw [WO ks k (by rw [HM.out];exact hlt)]
    have e:c+(one:Int)+((Qu ks k+ks.getD k 0:Nat):Int)=c+one+Qu ks k+((ks.getD k 0:Nat):Int):=by omega
    rw [e];exact hc4)
   have HO4:Hid (Qp b w w4):=Lib.hid ((HOt.out.trans (Qp.below ((Below.refl _ _).alloc (Nat.le_refl _) _))).trans ho4)
   have HB4:=Lib.hid hb4
   clear hc4 ho4 hb4 y0 y1 y2 y3 y4 y5
   go_wp2_with fail
   go_roundg (m - (k+1))
   case measure=>have:=HG.out;omega
   case rel=>exact ⟨k+1,rfl,by omega,by go_num,Aq.out,HB4.out,HO4.out⟩
  ·obtain rfl:k=m:=by omega
   have HCt:=Lib.hid A1.out
   have HBe:=Lib.hid A2.out
   have HOt:=Lib.hid A3.out
   clear A1 A2 A3
   go_wp2_with fail
   go_end0
   refine ⟨rfl,?_,HOt.out,HBe.out⟩
   have h1:=HCt.out
   rw [←HM.out,sumK_all] at h1
   have e:c+((one+ks.sum:Nat):Int)=c+one+(ks.sum:Nat):=by omega
   rw [e];exact h1
def sizeT:Tr→Nat
 | .num _ _=>jr mO
 | .name _ _=>jr jk
 | .un op _ a=>jr op+[sizeT a].sum
 | .bin op _ a b=>jr op+[sizeT a,sizeT b].sum
 | .cond op _ a b c=>jr op+[sizeT a,sizeT b,sizeT c].sum
 | .eF op _ _ _ a=>jr op+[sizeT a].sum
def Tr.Xj (N:Nat):Tr→Prop
 | .num _ _=>True
 | .name _ _=>True
 | .un op _ a=>op.size≤N∧a.Xj N
 | .bin op _ a b=>op.size≤N∧a.Xj N∧b.Xj N
 | .cond op _ a b c=>op.size≤N∧a.Xj N∧b.Xj N∧c.Xj N
 | .eF op _ _ _ a=>op.size≤N∧a.Xj N
theorem lC (op nm:ByteArray) (ks:List (List UInt8)):2+op.size+(ks.map fun k=>k.length+1).sum≤(qp op nm ks).length:=by
 unfold qp
 have e1:(⟨#[40]⟩++op:ByteArray).size=1+op.size:=ByteArray.size_append
 have e3:(ks.map fun k=>(32:UInt8)::k).flatten.length=(ks.map fun k=>k.length+1).sum:=by
  rw [List.length_flatten,List.map_map]
  rfl
 simp only [List.length_append,zy,e1,e3,List.length_singleton]
 omega
theorem BQ (N:Nat): ∀t:Tr,(txt t).length≤N→t.Xj N
 | .num _ _,_=>trivial
 | .name _ _,_=>trivial
 | .un op _ a,h=>by
  have:=lC op ak [txt a]
  simp only [List.map_cons,List.map_nil,List.sum_cons,List.sum_nil] at this
  simp only [txt] at h
  exact ⟨by omega,BQ N a (by omega)⟩
 | .bin op _ a b,h=>by
  have:=lC op ak [txt a,txt b]
  simp only [List.map_cons,List.map_nil,List.sum_cons,List.sum_nil] at this
  simp only [txt] at h
  exact ⟨by omega,BQ N a (by omega),BQ N b (by omega)⟩
 | .cond op _ a b c,h=>by
  have:=lC op ak [txt a,txt b,txt c]
  simp only [List.map_cons,List.map_nil,List.sum_cons,List.sum_nil] at this
  simp only [txt] at h
  exact ⟨by omega,BQ N a (by omega),BQ N b (by omega),BQ N c (by omega)⟩
 | .eF op s _ _ a,h=>by
  have:=lC op s [txt a]
  simp only [List.map_cons,List.map_nil,List.sum_cons,List.sum_nil] at this
  simp only [txt] at h
  exact ⟨by omega,BQ N a (by omega)⟩
theorem zL (op:ByteArray):jr op≤2:=by unfold jr;split<;>omega
theorem yP: ∀t:Tr,sizeT t≤2*((txt t).length+1)
 | .num _ _=>by have:=zL mO;simp only [sizeT];omega
 | .name _ _=>by have:=zL jk;simp only [sizeT];omega
 | .un op _ a=>by
  have:=lC op ak [txt a]
  have:=zL op
  have:=yP a
  simp only [List.map_cons,List.map_nil,List.sum_cons,List.sum_nil,sizeT,txt] at*
  omega
 | .bin op _ a b=>by
  have:=lC op ak [txt a,txt b]
  have:=zL op
  have:=yP a
  have:=yP b
  simp only [List.map_cons,List.map_nil,List.sum_cons,List.sum_nil,sizeT,txt] at*
  omega
 | .cond op _ a b c=>by
  have:=lC op ak [txt a,txt b,txt c]
  have:=zL op
  have:=yP a
  have:=yP b
  have:=yP c
  simp only [List.map_cons,List.map_nil,List.sum_cons,List.sum_nil,sizeT,txt] at*
  omega
 | .eF op s _ _ a=>by
  have:=lC op s [txt a]
  have:=zL op
  have:=yP a
  simp only [List.map_cons,List.map_nil,List.sum_cons,List.sum_nil,sizeT,txt] at*
  omega
theorem kidn1 {W0:World} {b k:Nat} {a:Tr} {ka:Value} (hk:W0.heap[k]? =some (.cells (a.cells ka).toArray 30)) (hs: ∃o m,ka= .slice o m m)
  (hw:Counts W0 b (.agg #[.string a.op,.int .i64 a.val,.string a.nm,.int .i64 a.pos,.int .i64 a.aG,ka]) (sizeT a)):KidsN W0 b k [sizeT a]:=by
 intro i hi
 obtain rfl:i=0:=by simpa using hi
 exact ⟨a.op,a.val,a.nm,a.pos,a.aG,ka,⟨gZ hk rfl,gZ hk rfl,gZ hk rfl,gZ hk rfl,gZ hk rfl,gZ hk rfl⟩,hs,hw⟩
theorem kidn2 {W0:World} {b k:Nat} {a c:Tr} {ka kc:Value} (hk:W0.heap[k]? =some (.cells (a.cells ka++c.cells kc).toArray 30)) (hs: ∃o m,ka= .slice o m m) (hs2: ∃o m,kc= .slice o m m)
  (hw:Counts W0 b (.agg #[.string a.op,.int .i64 a.val,.string a.nm,.int .i64 a.pos,.int .i64 a.aG,ka]) (sizeT a))
  (hw2:Counts W0 b (.agg #[.string c.op,.int .i64 c.val,.string c.nm,.int .i64 c.pos,.int .i64 c.aG,kc]) (sizeT c)):KidsN W0 b k [sizeT a,sizeT c]:=by
 intro i hi
 match i,hi with
 | 0,_=>exact ⟨a.op,a.val,a.nm,a.pos,a.aG,ka,⟨gZ hk rfl,gZ hk rfl,gZ hk rfl,gZ hk rfl,gZ hk rfl,gZ hk rfl⟩,hs,hw⟩
 | 1,_=>exact ⟨c.op,c.val,c.nm,c.pos,c.aG,kc,⟨gZ hk rfl,gZ hk rfl,gZ hk rfl,gZ hk rfl,gZ hk rfl,gZ hk rfl⟩,hs2,hw2⟩
theorem kidn3 {W0:World} {b k:Nat} {a c d:Tr} {ka kc kd:Value} (hk:W0.heap[k]? =some (.cells (a.cells ka++c.cells kc++d.cells kd).toArray 30)) (hs: ∃o m,ka= .slice o m m) (hs2: ∃o m,kc= .slice o m m) (hs3: ∃o m,kd= .slice o m m)
  (hw:Counts W0 b (.agg #[.string a.op,.int .i64 a.val,.string a.nm,.int .i64 a.pos,.int .i64 a.aG,ka]) (sizeT a))
  (hw2:Counts W0 b (.agg #[.string c.op,.int .i64 c.val,.string c.nm,.int .i64 c.pos,.int .i64 c.aG,kc]) (sizeT c))
  (hw3:Counts W0 b (.agg #[.string d.op,.int .i64 d.val,.string d.nm,.int .i64 d.pos,.int .i64 d.aG,kd]) (sizeT d)):KidsN W0 b k [sizeT a,sizeT c,sizeT d]:=by
 intro i hi
 match i,hi with
 | 0,_=>exact ⟨a.op,a.val,a.nm,a.pos,a.aG,ka,⟨gZ hk rfl,gZ hk rfl,gZ hk rfl,gZ hk rfl,gZ hk rfl,gZ hk rfl⟩,hs,hw⟩
 | 1,_=>exact ⟨c.op,c.val,c.nm,c.pos,c.aG,kc,⟨gZ hk rfl,gZ hk rfl,gZ hk rfl,gZ hk rfl,gZ hk rfl,gZ hk rfl⟩,hs2,hw2⟩
 | 2,_=>exact ⟨d.op,d.val,d.nm,d.pos,d.aG,kd,⟨gZ hk rfl,gZ hk rfl,gZ hk rfl,gZ hk rfl,gZ hk rfl,gZ hk rfl⟩,hs3,hw3⟩
theorem Cb (W0:World) (b:Nat) (hB:W0.heap.size≤b) (N:Nat) (hN:N≤9223372036854775807): ∀(t:Tr) (kv:Value),t.In W0 0 kv→t.Xj N→Counts W0 b (.agg #[.string t.op,.int .i64 t.val,.string t.nm,.int .i64 t.pos,.int .i64 t.aG,kv]) (sizeT t)
 | .num n p,kv,hi,_=>by obtain rfl:kv=_:=hi;exact WT W0 b hB mO ak n p 0 (by decide)
 | .name s p,kv,hi,_=>by obtain rfl:kv=_:=hi;exact WT W0 b hB jk s 0 p 0 (by decide)
 | .un op p a,kv,hi,hw=>by
  obtain ⟨k,ka,rfl,_,hk,ha⟩:=hi
  obtain ⟨hop,hwa⟩:=hw
  exact Si W0 b k hB op ak 0 p 0 [sizeT a] (kidn1 hk ha.shape (Cb W0 b hB N hN a ka ha hwa)) (by simp) (by omega)
 | .bin op p a c,kv,hi,hw=>by
  obtain ⟨k,ka,kc,rfl,_,hk,ha,hc⟩:=hi
  obtain ⟨hop,hwa,hwc⟩:=hw
  exact Si W0 b k hB op ak 0 p 0 [sizeT a,sizeT c] (kidn2 hk ha.shape hc.shape (Cb W0 b hB N hN a ka ha hwa) (Cb W0 b hB N hN c kc hc hwc)) (by simp) (by omega)
 | .cond op p a c d,kv,hi,hw=>by
  obtain ⟨k,ka,kc,kd,rfl,_,hk,ha,hc,hd⟩:=hi
  obtain ⟨hop,hwa,hwc,hwd⟩:=hw
  exact Si W0 b k hB op ak 0 p 0 [sizeT a,sizeT c,sizeT d] (kidn3 hk ha.shape hc.shape hd.shape (Cb W0 b hB N hN a ka ha hwa) (Cb W0 b hB N hN c kc hc hwc) (Cb W0 b hB N hN d kd hd hwd)) (by simp) (by omega)
 | .eF op s p q a,kv,hi,hw=>by
  obtain ⟨k,ka,rfl,_,hk,ha⟩:=hi
  obtain ⟨hop,hwa⟩:=hw
  exact Si W0 b k hB op s 0 p q [sizeT a] (kidn1 hk ha.shape (Cb W0 b hB N hN a ka ha hwa)) (by simp) (by omega)
set_option maxHeartbeats 2000000 in
theorem size_any (E:Nat) (t:Tr) (w:World) (h:xO w E t) (hw:t.Wf) (hl:(txt t).length≤32768):
  Calls Tryz.prog 28 #[.pointer (some ⟨E,0,none⟩)] w fun e w'=>e= .returned (.int .i64 (sizeT t))∧Below w.heap.size w w':=by
 have hmf: ∀(fn:Fn) (first cap:Array Value) (w:World),(Instr.makeFunc fn first cap).run Tryz.prog w= .ok (.func fn first cap) w:=fun _ _ _ _=>rfl
 have HN:=Lib.hid (Dx E t w h hw)
 obtain ⟨o,m,hE,hI⟩:=h
 have hEl:=lt_of_heap hE
 obtain ⟨⟨c0,c1,c2,c3,c4,c5⟩,_⟩:=aA hE
 have HW:=Lib.hid (Cb w w.heap.size (Nat.le_refl _) 32768 (by decide) t _ hI (BQ _ t hl))
 have HS:=Lib.hid (yP t)
 have HL:=Lib.hid hl
 clear hE hI hw hl
 go_enter Tryz.func28,Tryz.ntmps28
 go_wp2_with (go_at_call 58;refine HN.out.mono ?_;rintro e w' ⟨rfl,rfl⟩)
 have hcall:=HW.out 0 (w.alloc (.cells #[.int .i64 0] 3)) ((Below.refl _ _).alloc (Nat.le_refl _) _) (heap_alloc_last w _) (by omega) (by have:=HS.out;have:=HL.out;omega)
 refine hcall.mono ?_
 clear hcall
 rintro e w1 ⟨rfl,hc1,_,hb1⟩
 have HC:Hid (IW w1 w.heap.size (sizeT t)):=Lib.hid (by have:=hc1;simpa using this)
 have HB:=Lib.hid hb1
 clear hc1 hb1 c0 c1 c2 c3 c4 c5
 obtain ⟨d1,d2⟩:=Vg HC.out
 go_wp2_with fail
 go_ret
 exact ⟨rfl,HB.out⟩
set_option maxHeartbeats 1000000 in
theorem size_of (l:List Int) (n:Nat) (e:Tr) (t:Tk) (E:Nat) (w:World) (hp:cZ l n=some (.ok e t)) (h:xO w E e):
  Calls Tryz.prog 28 #[.pointer (some ⟨E,0,none⟩)] w fun x w'=>x= .returned (.int .i64 (sizeT e))∧Below w.heap.size w w':=
 size_any E e w h (lJ hp).1 (pW hp)
theorem KJ {s:ByteArray} {k:Nat} (hk:1≤k) (h:k≤dO s):fZ s=false:=by
 unfold dO bG at h
 simp only [rowFrom,List.any_cons,List.any_nil,Bool.or_false,Bool.or_eq_true,decide_eq_true_eq] at h
 repeat' (split at h)
 all_goals first
  | omega
  | (rename_i hh;rcases hh with rfl | rfl | rfl | rfl<;>decide)
  | (rename_i hh;rcases hh with rfl | rfl | rfl<;>decide)
  | (rename_i hh;rcases hh with rfl | rfl<;>decide)
  | (rename_i hh;subst hh;decide)
theorem Po {s:ByteArray} {k:Nat} (hk:1≤k) (h:k≤dO s):jr s=1:=by unfold jr;rw [KJ hk h];rfl
theorem Pq (t:Tk) (h:t.text=iE):jr t.text=1:=by rw [h];decide
theorem UE (s:ByteArray):jr (jo s)=1:=by
 unfold jo
 split
 ·rename_i c
  rcases c with rfl | rfl<;>decide
 ·split
  ·rename_i c
   rcases c with rfl | rfl<;>decide
  ·decide
def Md.E8:Md→Nat
 | .loop _ t=>sizeT t
 | _=>0
theorem iU (l:List Int): ∀(n:Nat) (md:Md) (t:Tk),t.Sz l→md.Ok→ ∀e t',rd l n md t=some (.ok e t')→t'.Sz l∧sizeT e+mu l t'≤md.E8+mu l t
 | 0,md,t,_,_,e,t',h=>by cases md<;>simp [rd] at h
 | n+1,.expr,t,ht,_,e,t',h=>by
  simp only [rd] at h
  by_cases c:t.kind=3∧fZ (tok l t.stop).text=true
  ·rw [if_pos c] at h
   generalize hx:rd l n .expr (tok l (tok l t.stop).stop)=x at h
   match x,hx,h with
   | some (.ok a t1),hx,h=>
    simp only [Option.some.injEq,Rs.ok.injEq] at h
    obtain ⟨rfl,rfl⟩:=h
    obtain ⟨h1,ha⟩:=iU l n .expr _ (eP _ _) trivial _ _ hx
    have m1:=vO ht (Or.inr (Or.inl c.1))
    have m2:=jl (eP l t.stop) (og c.2)
    have:=zL (tok l t.stop).text
    refine ⟨h1,?_⟩
    simp only [sizeT,List.sum_cons,List.sum_nil,Md.E8] at ha⊢
    omega
  ·rw [if_neg c] at h
   exact iU l n .cond t ht trivial _ _ h
 | n + 1,.cond,t,ht,_,e,t',h=>by
  simp only [rd] at h
  generalize hx:rd l n (.bin 1) t=x at h
  match x,hx,h with
  | some (.ok a t1),hx,h=>
   obtain ⟨h1,ha⟩:=iU l n (.bin 1) t ht (Nat.le_refl 1) _ _ hx
   simp only [] at h
   by_cases c:t1.text=iE
   ·rw [if_pos c] at h
    have m1:=jl h1 (by rw [c];decide)
    generalize hy:rd l n .expr (tok l t1.stop)=y at h
    match y,hy,h with
    | some (.ok b t2),hy,h=>
     obtain ⟨h2,hb⟩:=iU l n .expr _ (eP _ _) trivial _ _ hy
     simp only [] at h
     by_cases d:t2.text=o8
     ·rw [if_pos d] at h
      have m2:=jl h2 (by rw [d];decide)
      generalize hz:rd l n .cond (tok l t2.stop)=z at h
      match z,hz,h with
      | some (.ok f t3),hz,h=>
       have:=Pq t1 c
       obtain ⟨h3,hf⟩:=iU l n .cond _ (eP _ _) trivial _ _ hz
       simp only [Option.some.injEq,Rs.ok.injEq] at h
       obtain ⟨rfl,rfl⟩:=h
       refine ⟨h3,?_⟩
       simp only [sizeT,List.sum_cons,List.sum_nil,Md.E8] at ha hb hf⊢
       omega
     ·rw [if_neg d] at h
      simp [refuse] at h
   ·rw [if_neg c] at h
    simp only [Option.some.injEq,Rs.ok.injEq] at h
    obtain ⟨rfl,rfl⟩:=h
    exact ⟨h1,ha⟩
 | n+1,.bin k,t,ht,hk,e,t',h=>by
  simp only [rd] at h
  generalize hx:rd l n .iR t=x at h
  match x,hx,h with
  | some (.ok a t1),hx,h=>
   obtain ⟨h1,ha⟩:=iU l n .iR t ht trivial _ _ hx
   obtain ⟨h2,hb⟩:=iU l n (.loop k a) t1 h1 hk _ _ h
   refine ⟨h2,?_⟩
   simp only [Md.E8] at ha hb⊢
   omega
 | n+1,.loop k left,t,ht,hk,e,t',h=>by
  simp only [rd] at h
  by_cases c:k≤dO t.text
  ·rw [if_pos c] at h
   have m1:=jl ht (oK hk c)
   generalize hx:rd l n (.bin (dO t.text+1)) (tok l t.stop)=x at h
   match x,hx,h with
   | some (.ok b t2),hx,h=>
    have:=Po hk c
    obtain ⟨h2,hb⟩:=iU l n (.bin (dO t.text+1)) _ (eP _ _) (Nat.le_add_left 1 _) _ _ hx
    obtain ⟨h3,hf⟩:=iU l n (.loop k (.bin t.text t.start left b)) t2 h2 hk _ _ h
    refine ⟨h3,?_⟩
    simp only [sizeT,List.sum_cons,List.sum_nil,Md.E8] at hb hf⊢
    omega
  ·rw [if_neg c] at h
   simp only [Option.some.injEq,Rs.ok.injEq] at h
   obtain ⟨rfl,rfl⟩:=h
   exact ⟨ht,Nat.le_refl _⟩
 | n +1,.iR,t,ht,_,e,t',h=>by
  simp only [rd] at h
  by_cases c2:t.kind=2
  ·rw [if_pos c2] at h
   have m1:=vO ht (Or.inl c2)
   by_cases co:t.over=true
   ·rw [if_pos co] at h;simp [refuse] at h
   ·rw [if_neg co] at h
    by_cases cg:gG l t.stop=true
    ·rw [if_pos cg] at h;simp at h
    ·rw [if_neg cg] at h
     simp only [Option.some.injEq,Rs.ok.injEq] at h
     obtain ⟨rfl,rfl⟩:=h
     have:jr mO=1:=by decide
     refine ⟨eP _ _,?_⟩
     simp only [sizeT,Md.E8]
     omega
  rw [if_neg c2] at h
  by_cases c3:t.kind=3
  ·rw [if_pos c3] at h
   have m1:=vO ht (Or.inr (Or.inl c3))
   simp only [Option.some.injEq,Rs.ok.injEq] at h
   obtain ⟨rfl,rfl⟩:=h
   refine ⟨eP _ _,?_⟩
   have:jr jk=1:=by decide
   simp only [sizeT,Md.E8]
   omega
  rw [if_neg c3] at h
  by_cases cu: ¬jo t.text=ak
  ·rw [if_pos cu] at h
   have m1:=jl ht (zG cu)
   generalize hx:rd l n .iR (tok l t.stop)=x at h
   match x,hx,h with
   | some (.ok a t1),hx,h=>
    simp only [Option.some.injEq,Rs.ok.injEq] at h
    obtain ⟨rfl,rfl⟩:=h
    obtain ⟨h1,ha⟩:=iU l n .iR _ (eP _ _) trivial _ _ hx
    have:=UE t.text
    refine ⟨h1,?_⟩
    simp only [sizeT,List.sum_cons,List.sum_nil,Md.E8] at ha⊢
    omega
  rw [if_neg cu] at h
  by_cases cp:t.text=jy
  ·rw [if_pos cp] at h
   have m1:=jl ht (by rw [cp];decide)
   generalize hx:rd l n .expr (tok l t.stop)=x at h
   match x,hx,h with
   | some (.ok a t1),hx,h=>
    obtain ⟨h1,ha⟩:=iU l n .expr _ (eP _ _) trivial _ _ hx
    simp only [] at h
    by_cases cs:t1.text=jw
    ·rw [if_pos cs] at h
     have m2:=jl h1 (by rw [cs];decide)
     simp only [Option.some.injEq,Rs.ok.injEq] at h
     obtain ⟨rfl,rfl⟩:=h
     refine ⟨eP _ _,?_⟩
     simp only [Md.E8] at ha⊢
     omega
    ·rw [if_neg cs] at h
     simp [refuse] at h
  ·rw [if_neg cp] at h
   simp [refuse] at h
theorem G8 (t:Tr):1≤sizeT t:=by
 have h: ∀s,1≤jr s:=fun s=>by unfold jr;split<;>omega
 cases t<;>simp only [sizeT]<;>first | exact h _ | exact Nat.le_trans (h _) (Nat.le_add_right _ _)
theorem oP {l:List Int} {n:Nat} {e:Tr} {t:Tk} (h:cZ l n=some (.ok e t)):1≤sizeT e∧sizeT e≤l.length:=by
 refine ⟨G8 e,?_⟩
 obtain ⟨-,-,hl⟩:=lJ h
 unfold cZ at h
 rw [if_neg (by omega)] at h
 unfold mF at h
 generalize hx:rd l n .expr (tok l 0)=x at h
 match x,hx,h with
 | some (.ok a t1),hx,h=>
  obtain ⟨-,ha⟩:=iU l n .expr _ (eP _ _) trivial _ _ hx
  have hm:mu l (tok l 0)≤l.length:=Nat.sub_le _ _
  simp only [Md.E8] at ha
  simp only [] at h
  by_cases c:t1.kind=0
  ·rw [if_pos c] at h
   simp only [Option.some.injEq,Rs.ok.injEq] at h
   obtain ⟨rfl,rfl⟩:=h
   omega
  ·rw [if_neg c] at h
   simp [refuse] at h
end Go.Proofs.YtacfglopionkfaaGreatDoor
