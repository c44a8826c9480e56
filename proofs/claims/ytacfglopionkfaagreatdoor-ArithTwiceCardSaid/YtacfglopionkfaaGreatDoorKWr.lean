import Derived.Test.YtacfglopionkfaaGreatDoorKPa
import Derived.Test.YtacfglopionkfaaGreatDoorArBld
import Derived.Lib.AppendIntMem
import Derived.Lib.SmallJoins
namespace Go.Proofs.YtacfglopionkfaaGreatDoor
open Go.RowKit
def TP (w:World):Prop:=Lib.TabIs Tryz.prog w "internal/strconv.uint64pow10" .u64 Lib.pow10Tab
theorem TP.below {W0 w:World} (h:TP W0) (hb:Below W0.heap.size W0 w):TP w:=Go.Joins.tab_stays (g:=23) (by kernel_rfl) h hb (Nat.le_refl _)
set_option maxRecDepth 100000 in
set_option maxHeartbeats 4000000 in
theorem qL (n:Int) (w:World) (h0: -9223372036854775808≤n) (h1:n≤9223372036854775807) (h:TP w):
  Calls Tryz.prog 99 #[.int .i64 n] w fun e w'=>e= .returned (.string ⟨(Lib.itoa n).toArray⟩)∧Below w.heap.size w w':=by
 have HF:=Lib.hid (Tryz.strconv_FormatInt_10 n h0 h1 w h)
 clear h
 go_enter Tryz.func99,Tryz.ntmps99
 go_wp2_with fail
 refine HF.out.mono ?_
 rintro e w1 ⟨rfl,k,os,hw⟩
 have HB:Hid (Below w.heap.size w w1):=Lib.hid (by rw [hw];exact Lib.below_grow w.heap.size w (Nat.le_refl _) k os)
 clear hw
 go_wp2
 go_ret
 exact ⟨rfl,HB.out⟩
def Tr.Wf:Tr→Prop
 | .num n _=> -9223372036854775808≤n∧n≤9223372036854775807
 | .name _ _=>True
 | .un op _ a=>(op≠mO∧op≠jk∧op≠ak)∧a.Wf
 | .bin op _ a b=>(op≠mO∧op≠jk∧op≠ak)∧a.Wf∧b.Wf
 | .cond op _ a b c=>(op≠mO∧op≠jk∧op≠ak)∧a.Wf∧b.Wf∧c.Wf
 | .eF op s _ _ a=>(op≠mO∧op≠jk∧op≠ak)∧s≠ak∧a.Wf
theorem uJ {w w':World} {B:Nat} {e:TypeId} {k:Nat} {v:Value} {n:Nat} {xs:List Value} (h:w.ownsRow B e k v n xs) (hb:Below w.heap.size w w'):w'.ownsRow B e k v n xs:=by
 obtain ⟨h1,h2⟩:=h
 refine ⟨h1,?_⟩
 rcases h2 with h2 | ⟨g,cap,cur,hv,hB,hg,hr⟩
 ·exact Or.inl h2
 ·exact Or.inr ⟨g,cap,cur,hv,hB,(hb.block g (lt_of_heap hg)).trans hg,hr⟩
end Go.Proofs.YtacfglopionkfaaGreatDoor
namespace Go.Proofs.YtacfglopionkfaaGreatDoor
structure Tk.Nm (t:Tk):Prop where
 lo:0≤t.num
 hi:t.num≤9223372036854775807
 nm:t.kind=3→ ¬t.text=ak
theorem Fj:(0:Int)≤9223372036854775807:=by decide
theorem Zv (b:Int) (l:List Int):0≤gV b l∧gV b l≤9223372036854775807:=by
 unfold gV
 split
 ·rename_i h
  unfold rV cut
  have:=lZ b (by omega) l (rN b l) (vU _ _)
  split<;>omega
 ·omega
theorem Ro (l:List Int):0≤cV l∧cV l≤9223372036854775807:=by unfold cV;split<;>exact Zv _ _
theorem jT (l:List Int) (p:Nat):(tok l p).Nm:=by
 unfold tok
 generalize ay l p=q
 generalize l.drop q=r
 by_cases h0:r.length=0
 ·have e:gY r q=⟨0,q,q,ak,0,false⟩:=by unfold gY;rw [if_pos h0]
  rw [e]
  exact ⟨Int.le_refl 0,Fj,by intro h;simp at h⟩
 have h0:0<r.length:=by omega
 by_cases h1:0<fC r
 ·rw [zo h0 h1]
  refine ⟨Int.le_refl 0,Fj,fun _ h=>?_⟩
  have hs:=congrArg ByteArray.size h
  have:=rE r
  rw [show (Tk.text ⟨3,q,q+fC r,dI (r.take (fC r)),0,false⟩)=dI (r.take (fC r)) from rfl,jP,List.length_take] at hs
  have:ak.size=0:=rfl
  omega
 by_cases h2:0<cN r
 ·rw [Au h0 h1 h2]
  obtain ⟨a,b⟩:=Ro r
  exact ⟨a,b,by intro h;simp at h⟩
 by_cases h3:mG r=ak
 ·rw [Ar h0 h1 h2 h3]
  exact ⟨Int.le_refl 0,Fj,by intro h;simp at h⟩
 ·rw [yF h0 h1 h2 h3]
  exact ⟨Int.le_refl 0,Fj,by intro h;simp at h⟩
theorem OH {s:ByteArray} {k:Nat} (hk:1≤k) (h:k≤dO s):s≠mO∧s≠jk∧s≠ak:=by
 refine ⟨?_,?_,oK hk h⟩
 ·rintro rfl
  have:dO mO=0:=by decide
  omega
 ·rintro rfl
  have:dO jk=0:=by decide
  omega
theorem Qc {s:ByteArray} (h:fZ s=true):s≠mO∧s≠jk∧s≠ak:=by
 refine ⟨?_,?_,og h⟩
 ·rintro rfl;exact absurd h (by decide)
 ·rintro rfl;exact absurd h (by decide)
theorem Ug {s:ByteArray} (h: ¬jo s=ak):jo s≠mO∧jo s≠jk∧jo s≠ak:=by
 refine ⟨?_,?_,h⟩
 all_goals
  unfold jo
  split
  ·rename_i c
   rcases c with rfl | rfl<;>decide
  ·split
   ·rename_i c
    rcases c with rfl | rfl<;>decide
   ·decide
def Md.Left:Md→Prop
 | .loop _ t=>t.Wf
 | _=>True
theorem nT (l:List Int): ∀(n:Nat) (md:Md) (t:Tk),t.Nm→md.Ok→md.Left→ ∀e t',rd l n md t=some (.ok e t')→e.Wf∧t'.Nm
 | 0,md,t,_,_,_,e,t',h=>by cases md<;>simp [rd] at h
 | n+1,.expr,t,ht,_,_,e,t',h=>by
  simp only [rd] at h
  by_cases c:t.kind=3∧fZ (tok l t.stop).text=true
  ·rw [if_pos c] at h
   generalize hx:rd l n .expr (tok l (tok l t.stop).stop)=x at h
   match x,hx,h with
   | some (.ok a t1),hx,h=>
    simp only [Option.some.injEq,Rs.ok.injEq] at h
    obtain ⟨rfl,rfl⟩:=h
    obtain ⟨ha,h1⟩:=nT l n .expr _ (jT _ _) trivial trivial _ _ hx
    exact ⟨⟨Qc c.2,ht.nm c.1,ha⟩,h1⟩
  ·rw [if_neg c] at h
   exact nT l n .cond t ht trivial trivial _ _ h
 | n + 1,.cond,t,ht,_,_,e,t',h=>by
  simp only [rd] at h
  generalize hx:rd l n (.bin 1) t=x at h
  match x,hx,h with
  | some (.ok a t1),hx,h=>
   obtain ⟨ha,h1⟩:=nT l n (.bin 1) t ht (Nat.le_refl 1) trivial _ _ hx
   simp only [] at h
   by_cases c:t1.text=iE
   ·rw [if_pos c] at h
    generalize hy:rd l n .expr (tok l t1.stop)=y at h
    match y,hy,h with
    | some (.ok b t2),hy,h=>
     obtain ⟨hb,h2⟩:=nT l n .expr _ (jT _ _) trivial trivial _ _ hy
     simp only [] at h
     by_cases d:t2.text=o8
     ·rw [if_pos d] at h
      generalize hz:rd l n .cond (tok l t2.stop)=z at h
      match z,hz,h with
      | some (.ok f t3),hz,h=>
       obtain ⟨hf,h3⟩:=nT l n .cond _ (jT _ _) trivial trivial _ _ hz
       simp only [Option.some.injEq,Rs.ok.injEq] at h
       obtain ⟨rfl,rfl⟩:=h
       exact ⟨⟨by rw [c];decide,ha,hb,hf⟩,h3⟩
     ·rw [if_neg d] at h
      simp [refuse] at h
   ·rw [if_neg c] at h
    simp only [Option.some.injEq,Rs.ok.injEq] at h
    obtain ⟨rfl,rfl⟩:=h
    exact ⟨ha,h1⟩
 | n+1,.bin k,t,ht,hk,_,e,t',h=>by
  simp only [rd] at h
  generalize hx:rd l n .iR t=x at h
  match x,hx,h with
  | some (.ok a t1),hx,h=>
   obtain ⟨ha,h1⟩:=nT l n .iR t ht trivial trivial _ _ hx
   exact nT l n (.loop k a) t1 h1 hk ha _ _ h
 | n+1,.loop k left,t,ht,hk,hl,e,t',h=>by
  simp only [rd] at h
  by_cases c:k≤dO t.text
  ·rw [if_pos c] at h
   generalize hx:rd l n (.bin (dO t.text+1)) (tok l t.stop)=x at h
   match x,hx,h with
   | some (.ok b t2),hx,h=>
    obtain ⟨hb,h2⟩:=nT l n (.bin (dO t.text+1)) _ (jT _ _) (Nat.le_add_left 1 _) trivial _ _ hx
    exact nT l n (.loop k (.bin t.text t.start left b)) t2 h2 hk ⟨OH hk c,hl,hb⟩ _ _ h
  ·rw [if_neg c] at h
   simp only [Option.some.injEq,Rs.ok.injEq] at h
   obtain ⟨rfl,rfl⟩:=h
   exact ⟨hl,ht⟩
 | n +1,.iR,t,ht,_,_,e,t',h=>by
  simp only [rd] at h
  by_cases c2:t.kind=2
  ·rw [if_pos c2] at h
   by_cases co:t.over=true
   ·rw [if_pos co] at h;simp [refuse] at h
   ·rw [if_neg co] at h
    by_cases cg:gG l t.stop=true
    ·rw [if_pos cg] at h;simp at h
    ·rw [if_neg cg] at h
     simp only [Option.some.injEq,Rs.ok.injEq] at h
     obtain ⟨rfl,rfl⟩:=h
     have:=ht.lo
     exact ⟨⟨by omega,ht.hi⟩,jT _ _⟩
  rw [if_neg c2] at h
  by_cases c3:t.kind=3
  ·rw [if_pos c3] at h
   simp only [Option.some.injEq,Rs.ok.injEq] at h
   obtain ⟨rfl,rfl⟩:=h
   exact ⟨trivial,jT _ _⟩
  rw [if_neg c3] at h
  by_cases cu: ¬jo t.text=ak
  ·rw [if_pos cu] at h
   generalize hx:rd l n .iR (tok l t.stop)=x at h
   match x,hx,h with
   | some (.ok a t1),hx,h=>
    simp only [Option.some.injEq,Rs.ok.injEq] at h
    obtain ⟨rfl,rfl⟩:=h
    obtain ⟨ha,h1⟩:=nT l n .iR _ (jT _ _) trivial trivial _ _ hx
    exact ⟨⟨Ug cu,ha⟩,h1⟩
  rw [if_neg cu] at h
  by_cases cp:t.text=jy
  ·rw [if_pos cp] at h
   generalize hx:rd l n .expr (tok l t.stop)=x at h
   match x,hx,h with
   | some (.ok a t1),hx,h=>
    obtain ⟨ha,h1⟩:=nT l n .expr _ (jT _ _) trivial trivial _ _ hx
    simp only [] at h
    by_cases cs:t1.text=jw
    ·rw [if_pos cs] at h
     simp only [Option.some.injEq,Rs.ok.injEq] at h
     obtain ⟨rfl,rfl⟩:=h
     exact ⟨ha,jT _ _⟩
    ·rw [if_neg cs] at h
     simp [refuse] at h
  ·rw [if_neg cp] at h
   simp [refuse] at h
theorem BL {l:List Int} {n:Nat} {e:Tr} {t:Tk} (h:mF l n=some (.ok e t)):e.Wf∧t.kind=0:=by
 unfold mF at h
 generalize hx:rd l n .expr (tok l 0)=x at h
 match x,hx,h with
 | some (.ok a t1),hx,h=>
  obtain ⟨ha,-⟩:=nT l n .expr _ (jT _ _) trivial trivial _ _ hx
  simp only [] at h
  by_cases c:t1.kind=0
  ·rw [if_pos c] at h
   simp only [Option.some.injEq,Rs.ok.injEq] at h
   obtain ⟨rfl,rfl⟩:=h
   exact ⟨ha,c⟩
  ·rw [if_neg c] at h
   simp [refuse] at h
theorem lJ {l:List Int} {n:Nat} {e:Tr} {t:Tk} (h:cZ l n=some (.ok e t)):e.Wf∧t.kind=0∧l.length≤1024:=by
 unfold cZ at h
 by_cases c:1024<l.length
 ·rw [if_pos c] at h;simp at h
 ·rw [if_neg c] at h
  exact ⟨(BL h).1,(BL h).2,by omega⟩
end Go.Proofs.YtacfglopionkfaaGreatDoor
namespace Go.Proofs.YtacfglopionkfaaGreatDoor
open Go.RowKit
theorem cell_kept {W0 w:World} (hb:Below W0.heap.size W0 w) {b j:Nat} {u:Value} (h:W0.cell? ⟨b,j,none⟩=some u):w.cell? ⟨b,j,none⟩=some u:=by
 have hlt:b<W0.heap.size:=by
  rcases Nat.lt_or_ge b W0.heap.size with h' | h'
  ·exact h'
  ·simp [World.cell?,Array.getElem?_eq_none h'] at h
 rw [World.cell?_of_block (w:=W0) (hb.block b hlt)]
 exact h
theorem gZ {w:World} {b j:Nat} {cs:List Value} {ty:TypeId} {u:Value} (h:w.heap[b]? =some (.cells cs.toArray ty)) (hu:cs[j]? =some u):w.cell? ⟨b,j,none⟩=some u:=by
 simp [World.cell?,h,hu]
theorem Tr.Wf.op {t:Tr} (h:t.Wf):t.op≠ak:=by
 cases t with
 | num n p=>show mO≠ak;decide
 | name s p=>show jk≠ak;decide
 | un op p a=>exact h.1.2.2
 | bin op p a b=>exact h.1.2.2
 | cond op p a b c=>exact h.1.2.2
 | eF op s p q a=>exact h.1.2.2
def xO (w:World) (E:Nat) (t:Tr):Prop:= ∃o m,w.heap[E]? =some (.cells #[.string t.op,.int .i64 t.val,.string t.nm,.int .i64 t.pos,.int .i64 t.aG,.slice o m m] 77)∧t.In w 0 (.slice o m m)
theorem xO.below {w w':World} {E:Nat} {t:Tr} (h:xO w E t) (hb:Below w.heap.size w w'):xO w' E t:=by
 obtain ⟨o,m,hE,hI⟩:=h
 exact ⟨o,m,(hb.block E (lt_of_heap hE)).trans hE,hI.kept (fun k _ hk=>hb.block k hk) t _⟩
set_option maxHeartbeats 1000000 in
theorem Dx (E:Nat) (t:Tr) (w:World) (h:xO w E t) (hw:t.Wf):Calls Tryz.prog 58 #[.pointer (some ⟨E,0,none⟩)] w fun e w'=>e= .returned (.bool false)∧w=w':=by
 obtain ⟨o,m,hE,_⟩:=h
 obtain ⟨⟨c0,c1,c2,c3,c4,c5⟩,_⟩:=aA hE
 have e1:t.op.toList.isEmpty=false:=by have:=aX (l:=[]) hw.op;simpa using this
 clear hE hw
 go_enter Tryz.func58,Tryz.ntmps58
 go_wp2
 go_ret
 exact ⟨rfl,rfl⟩
end Go.Proofs.YtacfglopionkfaaGreatDoor
