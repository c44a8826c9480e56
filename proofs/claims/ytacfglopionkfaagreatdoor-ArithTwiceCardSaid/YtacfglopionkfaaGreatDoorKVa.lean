import Derived.Test.YtacfglopionkfaaGreatDoorKLh
namespace Go.Proofs.YtacfglopionkfaaGreatDoor
set_option maxRecDepth 100000
open Go.RowKit Go.WideMaps Go.Maps
set_option maxHeartbeats 4000000 in
theorem oQ (s:ByteArray) (w:World) (hl:s.size≤9223372036854775807):Calls Tryz.prog 54 #[.string s] w fun e w'=>e= .returned (.bool (rF s))∧Below w.heap.size w w':=by
 by_cases hE:s=ak
 ·obtain rfl:s=⟨#[]⟩:=hE
  have HF:rF ⟨#[]⟩=false:=rfl
  rw [HF]
  go_enter Tryz.func54,Tryz.ntmps54
  go_wp2_with fail
  go_ret
  exact ⟨rfl,Below.refl _ _⟩
 ·obtain ⟨cap,W1,hconv,hrow,hbel⟩:=mZ w s hl
  have HN:Hid (Calls Tryz.prog 92 #[.slice (some ⟨w.heap.size,0,none⟩) s.size cap] W1 fun e w'=>e= .returned (.int .i64 (fC (bT s)))∧W1=w'):=Lib.hid (zu _ (bT s) W1 hrow)
  have tn:=aX (l:=[]) hE
  have HE:rF s=decide (fC (bT s)=s.size):=by unfold rF;rw [decide_eq_true hE,Bool.true_and]
  rw [HE]
  have HB:=Lib.hid hbel
  clear hrow hbel
  go_enter Tryz.func54,Tryz.ntmps54
  go_wp2_with fail
  refine HN.out.mono ?_
  rintro e w2 ⟨rfl,rfl⟩
  go_wp2_with fail
  go_ret
  exact ⟨bK (by rw [Bool.eq_iff_iff,beq_iff_eq,decide_eq_true_iff];omega),HB.out⟩
def dV (a b:ByteArray):DataW Unit:= .agg [.lit (.string a.data.toList),.lit (.string b.data.toList)]
theorem Kq {a b c d:ByteArray} (h:dV a b=dV c d):a=c∧b=d:=by
 simp only [dV,DataW.agg.injEq,List.cons.injEq,DataW.lit.injEq,Lit.string.injEq,and_true] at h
 exact ⟨by obtain ⟨a⟩:=a;obtain ⟨c⟩:=c;simpa using h.1,by obtain ⟨b⟩:=b;obtain ⟨d⟩:=d;simpa using h.2⟩
open Classical in
noncomputable def zf (v:Value):Option (DataW Unit × List MemPlace):=
 if h: ∃p:ByteArray × ByteArray,v= .agg #[.string p.1,.string p.2] then some (dV (Classical.choose h).1 (Classical.choose h).2,[]) else none
theorem vT (a b:ByteArray):zf (.agg #[.string a,.string b])=some (dV a b,[]):=by
 unfold zf
 have h: ∃p:ByteArray × ByteArray,Value.agg #[.string a,.string b]= .agg #[.string p.1,.string p.2]:=⟨(a,b),rfl⟩
 rw [dif_pos h]
 have hs:=Classical.choose_spec h
 generalize Classical.choose h=p at hs⊢
 simp only [Value.agg.injEq,Array.mk.injEq,List.cons.injEq,Value.string.injEq,and_true] at hs
 rw [←hs.1, ←hs.2]
theorem FM {v:Value} {a b:ByteArray} {ps:List MemPlace} (h:zf v=some (dV a b,ps)):v= .agg #[.string a,.string b]:=by
 unfold zf at h
 split at h
 ·rename_i hh
  have hs:=Classical.choose_spec hh
  simp only [Option.some.injEq,Prod.mk.injEq] at h
  obtain ⟨h1,h2⟩:=Kq h.1
  rw [hs,h1,h2]
 ·cases h
end Go.Proofs.YtacfglopionkfaaGreatDoor
namespace Go.Proofs.YtacfglopionkfaaGreatDoor
set_option maxRecDepth 100000
open Go.RowKit Go.WideMaps Go.Maps
theorem LC (neg:Bool) (l:List Int):I64 (pO neg l).1∧(pO neg l).2≤21:=by
 have h:=Ro l
 unfold pO
 split
 ·exact ⟨by unfold I64;omega,by omega⟩
 ·split
  ·exact ⟨by unfold I64;omega,by omega⟩
  ·cases neg
   ·exact ⟨by unfold I64;simp;omega,by omega⟩
   ·have hw:wrap64 (-cV l)= -cV l:=by unfold wrap64;omega
    exact ⟨by unfold I64;simp only [if_true];rw [hw];omega,by omega⟩
theorem jc (s:ByteArray):I64 (numOf s).1∧(numOf s).2≤21:=by
 unfold numOf
 split
 ·exact ⟨by unfold I64;omega,by omega⟩
 ·unfold JL
  split
  ·exact ⟨by unfold I64;omega,by omega⟩
  ·exact LC _ _
end Go.Proofs.YtacfglopionkfaaGreatDoor
namespace Go.Proofs.YtacfglopionkfaaGreatDoor
set_option maxRecDepth 100000
open Go.RowKit Go.WideMaps Go.Maps
abbrev Vl:=List (ByteArray × ByteArray)
def kF (s:ByteArray):List UInt8:=s.data.toList
theorem pG {s t:ByteArray} (h:kF s=kF t):s=t:=by
 obtain ⟨⟨s⟩⟩:=s
 obtain ⟨⟨t⟩⟩:=t
 simpa [kF] using h
theorem jD (x:List UInt8): ¬x<x:=List.lt_irrefl x
theorem sD {x y z:List UInt8} (h:x<y) (k:y<z):x<z:=List.lt_trans h k
theorem D6 (x y:List UInt8):x<y∨x=y∨y<x:=by
 by_cases h:x<y
 ·exact Or.inl h
 ·by_cases k:y<x
  ·exact Or.inr (Or.inr k)
  ·exact Or.inr (Or.inl (List.le_antisymm (List.not_lt.1 k) (List.not_lt.1 h)))
def Vl.lS (l:Vl):Prop:=l.Pairwise fun a b=>kF a.1<kF b.1
def dX:Vl→ByteArray→Option ByteArray
 | [],_=>none
 | (k,v)::r,s=>if k=s then some v else dX r s
def qE (n:ByteArray) (l:Vl):Vl:=l.filter fun x=>decide (¬x.1=n)
def fM (n v:ByteArray):Bool→Vl→Vl
 | d,[]=>if d=true then [] else [(n,v)]
 | d,x::r=>(if d=false∧ ¬kF x.1<kF n then [(n,v)] else [])++((if x.1=n then [] else [x])++fM n v (d || decide (¬kF x.1<kF n)) r)
def iw (n v:ByteArray) (l:Vl):Vl:=fM n v false l
theorem pI (n v:ByteArray): ∀l:Vl,fM n v true l=qE n l
 | []=>rfl
 | x::r=>by
  simp only [fM,Bool.true_or,pI n v r,qE,List.filter_cons]
  by_cases h:x.1=n<;>simp [h]
theorem qO {n:ByteArray} {l:Vl} {x:ByteArray × ByteArray}:x∈qE n l↔x∈l∧ ¬x.1=n:=by simp [qE]
theorem Eh {n:ByteArray} {l:Vl} (h:l.lS):(qE n l).lS:=List.Pairwise.filter _ h
theorem Ei (n:ByteArray) (l:Vl):(qE n l).length≤l.length:=List.length_filter_le _ _
theorem oO {n v:ByteArray}: ∀{l:Vl} {x:ByteArray × ByteArray},x∈iw n v l↔x=(n,v)∨(x∈l∧ ¬x.1=n)
 | [],x=>by simp [iw,fM]
 | y ::r,x=>by
  have ih:x∈fM n v false r↔_:=oO (n:=n) (v:=v) (l:=r) (x:=x)
  unfold iw
  rw [fM]
  by_cases hc:kF y.1<kF n
  ·have hne: ¬y.1=n:=fun e=>jD _ (e▸hc)
   simp only [hc,not_true_eq_false,and_false,if_false,hne,Bool.false_or,decide_false,List.nil_append,List.mem_append,List.mem_cons,List.not_mem_nil,or_false,ih]
   constructor
   ·rintro (rfl | h | h)
    ·exact Or.inr ⟨Or.inl rfl,hne⟩
    ·exact Or.inl h
    ·exact Or.inr ⟨Or.inr h.1,h.2⟩
   ·rintro (h | ⟨rfl | h,h2⟩)
    ·exact Or.inr (Or.inl h)
    ·exact Or.inl rfl
    ·exact Or.inr (Or.inr ⟨h,h2⟩)
  ·simp only [hc,not_false_eq_true,and_self,if_true,decide_true,Bool.or_true,pI,List.mem_append,List.mem_cons,List.not_mem_nil,or_false,qO]
   by_cases hy:y.1=n
   ·simp only [hy,if_true,List.not_mem_nil,false_or]
    constructor
    ·rintro (h | h)
     ·exact Or.inl h
     ·exact Or.inr ⟨Or.inr h.1,h.2⟩
    ·rintro (h | ⟨rfl | h,h2⟩)
     ·exact Or.inl h
     ·exact absurd hy h2
     ·exact Or.inr ⟨h,h2⟩
   ·simp only [hy,if_false,List.mem_cons,List.not_mem_nil,or_false]
    constructor
    ·rintro (h | rfl | h)
     ·exact Or.inl h
     ·exact Or.inr ⟨Or.inl rfl,hy⟩
     ·exact Or.inr ⟨Or.inr h.1,h.2⟩
    ·rintro (h | ⟨rfl | h,h2⟩)
     ·exact Or.inl h
     ·exact Or.inr (Or.inl rfl)
     ·exact Or.inr (Or.inr ⟨h,h2⟩)
theorem uN (n v:ByteArray): ∀(l:Vl) (d:Bool),(fM n v d l).length≤l.length+1
 | [],d=>by simp only [fM];split<;>simp
 | y::r,d=>by
  rw [fM]
  by_cases hd:d=false∧ ¬kF y.1<kF n
  ·have e:(d || decide (¬kF y.1<kF n))=true:=by simp [hd.2]
   rw [e,pI]
   have:=Ei n r
   simp only [hd,and_self,if_true,List.length_append,List.length_cons,List.length_nil,not_false_eq_true]
   split<;>simp<;>omega
  ·have:=uN n v r (d || decide (¬kF y.1<kF n))
   generalize (d || decide (¬kF y.1<kF n))=q at*
   simp only [hd,if_false,List.length_append,List.length_nil]
   split<;>simp only [List.length_cons,List.length_nil]<;>omega
theorem lU {n v:ByteArray}: ∀{l:Vl},l.lS→(iw n v l).lS
 | [],_=>by simp [iw,fM,Vl.lS]
 | y ::r,h=>by
  obtain ⟨h1,h2⟩:=List.pairwise_cons.1 h
  have ih:(fM n v false r).lS:=lU (n:=n) (v:=v) h2
  unfold iw
  rw [fM]
  by_cases hc:kF y.1<kF n
  ·have hne: ¬y.1=n:=fun e=>jD _ (e▸hc)
   simp only [hc,not_true_eq_false,and_false,if_false,hne,Bool.false_or,decide_false,List.nil_append,List.cons_append]
   refine List.pairwise_cons.2 ⟨fun z hz=>?_,ih⟩
   rcases (oO (n:=n) (v:=v)).1 hz with rfl | ⟨hz,_⟩
   ·exact hc
   ·exact h1 z hz
  ·have hr:(qE n r).lS:=Eh h2
   have hny:kF n<kF y.1∨n=y.1:=by
    rcases D6 (kF y.1) (kF n) with k | k | k
    ·exact absurd k hc
    ·exact Or.inr (pG k).symm
    ·exact Or.inl k
   simp only [hc,not_false_eq_true,and_self,if_true,decide_true,Bool.or_true,pI,List.cons_append,List.nil_append]
   refine List.pairwise_cons.2 ⟨fun z hz=>?_,?_⟩
   ·rcases List.mem_append.1 hz with hz | hz
    ·by_cases hy:y.1=n
     ·simp [hy] at hz
     ·simp only [hy,if_false,List.mem_cons,List.not_mem_nil,or_false] at hz
      subst hz
      rcases hny with k | k
      ·exact k
      ·exact absurd k.symm hy
    ·have hz':=(qO.1 hz).1
     rcases hny with k | k
     ·exact sD k (h1 z hz')
     ·subst k;exact h1 z hz'
   ·by_cases hy:y.1=n
    ·simp only [hy,if_true,List.nil_append];exact hr
    ·simp only [hy,if_false,List.cons_append,List.nil_append]
     exact List.pairwise_cons.2 ⟨fun z hz=>h1 z (qO.1 hz).1,hr⟩
theorem iD {l:Vl} (h:l.lS) {s v:ByteArray}:dX l s=some v↔(s,v)∈l:=by
 induction l with
 | nil=>simp [dX]
 | cons y r ih=>
  obtain ⟨k,u⟩:=y
  obtain ⟨h1,h2⟩:=List.pairwise_cons.1 h
  simp only [dX]
  by_cases e:k=s
  ·subst e
   simp only [if_true,Option.some.injEq,List.mem_cons,Prod.mk.injEq,true_and]
   constructor
   ·intro e;exact Or.inl e.symm
   ·rintro (e | e)
    ·exact e.symm
    ·exact absurd (h1 _ e) (jD _)
  ·rw [if_neg e,ih h2,List.mem_cons]
   constructor
   ·exact Or.inr
   ·rintro (e' | e')
    ·exact absurd (congrArg Prod.fst e').symm e
    ·exact e'
theorem rY {l:Vl} (h:l.lS):l.Nodup:=List.Pairwise.imp (R:=fun a b:ByteArray × ByteArray=>kF a.1<kF b.1) (fun {a b} hab e=>by rw [e] at hab;exact jD _ hab) h
theorem JZ {a b:Vl} (ha:a.lS) (hb:b.lS) (h: ∀x,x∈a↔x∈b):a=b:=by
 have ha':a.Pairwise fun x y=>kF x.1<kF y.1:=ha
 have hb':b.Pairwise fun x y=>kF x.1<kF y.1:=hb
 refine List.Perm.eq_of_pairwise (le:=fun x y=>kF x.1<kF y.1) (fun x y _ _ h1 h2=>absurd (sD h1 h2) (jD _)) ha' hb' ((List.perm_ext_iff_of_nodup (rY ha) (rY hb)).2 h)
theorem Cm {a b:Vl} (ha:a.lS) (hb:b.lS) (h: ∀s,dX a s=dX b s):a=b:=
 JZ ha hb fun ⟨s,v⟩=>by rw [←iD ha, ←iD hb,h s]
theorem wH {l:Vl} (h:l.lS) (n v s:ByteArray):dX (iw n v l) s=if n=s then some v else dX l s:=by
 have hr:=lU (n:=n) (v:=v) h
 by_cases e:n=s
 ·subst e
  rw [if_pos rfl,iD hr,oO]
  exact Or.inl rfl
 ·rw [if_neg e]
  refine Option.ext fun u=>?_
  rw [iD hr,oO,iD h]
  constructor
  ·rintro (k | k)
   ·exact absurd (congrArg Prod.fst k).symm e
   ·exact k.1
  ·intro k;exact Or.inr ⟨k,fun e'=>e e'.symm⟩
def rP (D:DataW Unit) (l:Vl):Prop:= ∀s:ByteArray,Maps.has D (KL s)=(dX l s).isSome∧ ∀v,dX l s=some v→ ∀z,D.atKey (KL s) z=dV s v
theorem rP.nil:rP (.map []) []:=fun _=>⟨rfl,fun _ h=>by cases h⟩
theorem rP.put {D:DataW Unit} {l:Vl} (h:rP D l) (hD:IsMap D) (hr:l.lS) (n v:ByteArray):rP (D.put (KL n) (dV n v)) (iw n v l):=by
 intro s
 have hk:WideAt.IsKeyLit (KL n):=trivial
 rw [wH hr]
 by_cases e:n=s
 ·subst e
  rw [if_pos rfl,has_put_same hD hk]
  exact ⟨rfl,fun u hu z=>by rw [atKey_put_same hD hk];cases hu;rfl⟩
 ·have hne:KL s≠KL n:=fun h=>e (KL.inj h).symm
  rw [if_neg e,has_put_other hne]
  exact ⟨(h s).1,fun u hu z=>by rw [atKey_put_other hne];exact (h s).2 u hu z⟩
end Go.Proofs.YtacfglopionkfaaGreatDoor
namespace Go.Proofs.YtacfglopionkfaaGreatDoor
set_option maxRecDepth 100000
open Go.RowKit Go.WideMaps Go.Maps
structure But (P:Nat→Prop) (w w':World):Prop where
 os:w'.os=w.os
 tape:w'.tape=w.tape
 output:w'.output=w.output
 size:w.heap.size≤w'.heap.size
 block: ∀k,k<w.heap.size→ ¬P k→w'.heap[k]? =w.heap[k]?
theorem But.refl (P:Nat→Prop) (w:World):But P w w:=⟨rfl,rfl,rfl,Nat.le_refl _,fun _ _ _=>rfl⟩
theorem But.trans {P Q R:Nat→Prop} {a b c:World} (h:But P a b) (k:But Q b c) (hP: ∀i,i<a.heap.size→P i→R i) (hQ: ∀i,i<a.heap.size→Q i→R i):But R a c:=
 ⟨k.os.trans h.os,k.tape.trans h.tape,k.output.trans h.output,Nat.le_trans h.size k.size,fun i hi hn=>(k.block i (by have:=h.size;omega) (fun q=>hn (hQ i hi q))).trans (h.block i hi (fun q=>hn (hP i hi q)))⟩
theorem But.of_below {P:Nat→Prop} {w w':World} (h:Below w.heap.size w w'):But P w w':=⟨h.os,h.tape,h.output,h.size,fun i hi _=>h.block i hi⟩
theorem But.below {P:Nat→Prop} {B:Nat} {w w':World} (h:But P w w') (hB:B≤w.heap.size) (hP: ∀i,i<B→ ¬P i):Below B w w':=⟨h.os,h.tape,h.output,h.size,fun i hi=>h.block i (by omega) (hP i hi)⟩
theorem But.setCell {P:Nat→Prop} {a w:World} (h:But P a w) {p:Addr} (hp:P p.block) (u:Value):But P a (w.setCell p u):=
 ⟨h.os,h.tape,h.output,by simp only [World.setCell,Array.size_modify];exact h.size,fun k hk hn=>(Below.heap_setCell _ _ _ _ (fun e=>hn (by rw [e];exact hp))).trans (h.block k hk hn)⟩
theorem But.alloc {P:Nat→Prop} {a w:World} (h:But P a w) (o:Obj):But P a (w.alloc o):=
 ⟨h.os,h.tape,h.output,by simp only [World.size_alloc];have:=h.size;omega,fun k hk hn=>(Below.heap_alloc _ _ _ (by have:=h.size;omega)).trans (h.block k hk hn)⟩
theorem But.grown {P:Nat→Prop} {a w w':World} {row:Option Nat} (h:But P a w) (hg:w.grownBy w' row) (hr: ∀k,row=some k→k<a.heap.size→P k):But P a w':=
 ⟨hg.os.trans h.os,hg.tape.trans h.tape,hg.output.trans h.output,Nat.le_trans h.size hg.size,fun k hk hn=>(hg.block k (by have:=h.size;omega) (fun e=>hn (hr k e.symm hk))).trans (h.block k hk hn)⟩
structure aZ (w:World) (vb:Nat) (mo:Option Nat) (N:Nat) (l:Vl):Prop where
 blk:w.heap[vb]? =some (.cells #[.map mo] 103 (0,0))
 F9:l.lS
 none:mo=none→l=[]
 own: ∀mb,mo=some mb→ ∃D,w.ownsMap Tryz.prog 9 zf mb N D∧rP D l
def VB (vb:Nat) (mo:Option Nat) (i:Nat):Prop:=i=vb∨some i=mo
theorem aZ.ne {w:World} {vb:Nat} {mo:Option Nat} {N:Nat} {l:Vl} (h:aZ w vb mo N l) {mb:Nat} (hm:mo=some mb):mb≠vb:=by
 rintro rfl
 obtain ⟨D,⟨es,clock,h1,_⟩,_⟩:=h.own _ hm
 have:=h.blk
 rw [h1] at this
 cases this
theorem aZ.lt {w:World} {vb:Nat} {mo:Option Nat} {N:Nat} {l:Vl} (h:aZ w vb mo N l):vb<w.heap.size:=aV h.blk
theorem aZ.VI {w:World} {vb:Nat} {mo:Option Nat} {N:Nat} {l:Vl} (h:aZ w vb mo N l) {mb:Nat} (hm:mo=some mb):mb<w.heap.size:=by
 obtain ⟨D,h1,_⟩:=h.own _ hm
 exact h1.lt
theorem qK {w w':World} {k:TypeId} {R:Value→Option (DataW Unit × List MemPlace)} {b n:Nat} {D:DataW Unit} (h:w.ownsMap Tryz.prog k R b n D) (hb:w'.heap[b]? =w.heap[b]?):w'.ownsMap Tryz.prog k R b n D:=by
 obtain ⟨es,clock,h1,h2⟩:=h
 exact ⟨es,clock,hb.trans h1,h2⟩
theorem aZ.same {w w':World} {vb:Nat} {mo:Option Nat} {N:Nat} {l:Vl} (h:aZ w vb mo N l) (h1:w'.heap[vb]? =w.heap[vb]?) (h2: ∀mb,mo=some mb→w'.heap[mb]? =w.heap[mb]?):aZ w' vb mo N l:=
 ⟨h1.trans h.blk,h.F9,h.none,fun mb e=>by
  obtain ⟨D,g1,g2⟩:=h.own mb e
  exact ⟨D,qK g1 (h2 mb e),g2⟩⟩
theorem aZ.below {w w':World} {vb:Nat} {mo:Option Nat} {N:Nat} {l:Vl} (h:aZ w vb mo N l) (hb:Below w.heap.size w w'):aZ w' vb mo N l:=
 h.same (hb.block vb h.lt) (fun mb e=>hb.block mb (h.VI e))
theorem aZ.more {w:World} {vb:Nat} {mo:Option Nat} {N N':Nat} {l:Vl} (h:aZ w vb mo N l) (hN:N≤N'):aZ w vb mo N' l:=
 ⟨h.blk,h.F9,h.none,fun mb e=>by
  obtain ⟨D,g1,g2⟩:=h.own mb e
  exact ⟨D,g1.mono hN,g2⟩⟩
def jB (l:Vl) (n:ByteArray):ByteArray:=(dX l n).getD ⟨#[]⟩
set_option maxHeartbeats 4000000 in
theorem get_hit (vb mb N:Nat) (l:Vl) (n v:ByteArray) (w:World) (hv:aZ w vb (some mb) N l) (hn:n.size≤maxLen) (hl:dX l n=some v):Calls Tryz.prog 20 #[.pointer (some ⟨vb,0,none⟩),.string n] w fun e w'=>e= .returned (.tuple #[.string v,.bool true])∧Below w.heap.size w w':=by
 obtain ⟨D,hown,hrep⟩:=hv.own mb rfl
 obtain ⟨c0,_,hz⟩:=bU hv.blk
 obtain ⟨v',ps,hlk,hr⟩:=hown.look_ok rM Tryz.underlying101 (zC w) (vT _ _) (KL.key hn)
 obtain ⟨h1,h2⟩:=hrep n
 rw [h2 v hl] at hr
 rw [h1,hl] at hlk
 have ht:(some v).isSome=true:=rfl
 rw [ht] at hlk
 obtain rfl:=FM hr
 clear hv hown hrep hr h1 h2 hl ht
 go_enter Tryz.func20,Tryz.ntmps20
 go_wp2_with fail
 go_ret2
 exact ⟨rfl,(Below.refl _ _).alloc (Nat.le_refl _) _⟩
set_option maxHeartbeats 4000000 in
theorem get_miss (vb mb N:Nat) (l:Vl) (n:ByteArray) (w:World) (hv:aZ w vb (some mb) N l) (hn:n.size≤maxLen) (hl:dX l n=none):Calls Tryz.prog 20 #[.pointer (some ⟨vb,0,none⟩),.string n] w fun e w'=>e= .returned (.tuple #[.string ⟨#[]⟩,.bool false])∧Below w.heap.size w w':=by
 obtain ⟨D,hown,hrep⟩:=hv.own mb rfl
 obtain ⟨c0,_,hz⟩:=bU hv.blk
 obtain ⟨v',ps,hlk,hr⟩:=hown.look_ok rM Tryz.underlying101 (zC w) (vT _ _) (KL.key hn)
 obtain ⟨h1,h2⟩:=hrep n
 have hh:Maps.has D (KL n)=false:=by rw [h1,hl];rfl
 rw [atKey_of_not_has hh] at hr
 rw [hh] at hlk
 obtain rfl:=FM (a:=⟨#[]⟩) (b:=⟨#[]⟩) (ps:=ps) hr
 clear hv hown hrep hr h1 h2 hl hh
 go_enter Tryz.func20,Tryz.ntmps20
 go_wp2_with fail
 go_ret2
 exact ⟨rfl,(Below.refl _ _).alloc (Nat.le_refl _) _⟩
theorem get_any (vb N:Nat) (mo:Option Nat) (l:Vl) (n:ByteArray) (w:World) (hv:aZ w vb mo N l) (hn:n.size≤maxLen):Calls Tryz.prog 20 #[.pointer (some ⟨vb,0,none⟩),.string n] w fun e w'=>e= .returned (.tuple #[.string (jB l n),.bool (dX l n).isSome])∧Below w.heap.size w w':=by
 cases mo with
 | none=>
  obtain rfl:=hv.none rfl
  exact FU vb n w hv.blk hn
 | some mb=>
  cases hl:dX l n with
  | none=>
   have e:jB l n=⟨#[]⟩:=by unfold jB;rw [hl];rfl
   rw [e]
   exact get_miss vb mb N l n w hv hn hl
  | some v=>
   have e:jB l n=v:=by unfold jB;rw [hl];rfl
   rw [e]
   exact get_hit vb mb N l n v w hv hn hl
set_option maxHeartbeats 4000000 in
theorem Ul (vb:Nat) (nm val:ByteArray) (w:World) (hn:nm.size≤maxLen) (hnm:rF nm=false):Calls Tryz.prog 17 #[.pointer (some ⟨vb,0,none⟩),.string nm,.string val] w fun e w'=>e= .returned (.bool false)∧Below w.heap.size w w':=by
 have nY:=Lib.hid (oQ nm w (by unfold maxLen at hn;omega))
 rw [hnm] at nY
 clear hnm hn
 go_enter Tryz.func17,Tryz.ntmps17
 go_wp2_with fail
 refine nY.out.mono ?_
 rintro e w1 ⟨rfl,hb1⟩
 have HB:=Lib.hid hb1
 clear hb1
 go_wp2_with fail
 go_ret
 exact ⟨rfl,HB.out⟩
set_option maxHeartbeats 4000000 in
theorem OT (vb N:Nat) (nm val:ByteArray) (w:World) (hv:aZ w vb none N []) (hn:nm.size≤maxLen) (hnm:rF nm=true):Calls Tryz.prog 17 #[.pointer (some ⟨vb,0,none⟩),.string nm,.string val] w fun e w'=>e= .returned (.bool true)∧(∃mb,w.heap.size≤mb∧aZ w' vb (some mb) (N+1) (iw nm val []))∧But (VB vb none) w w':=by
 have nY:=Lib.hid (oQ nm w (by unfold maxLen at hn;omega))
 rw [hnm] at nY
 have HV:=Lib.hid hv
 have HN:=Lib.hid hn
 clear hv hnm hn
 go_enter Tryz.func17,Tryz.ntmps17
 go_wp2_with fail
 refine nY.out.mono ?_
 rintro e w1 ⟨rfl,hb1⟩
 have hv1:=jg HV.out.blk hb1
 obtain ⟨c0,_,hz⟩:=bU hv1
 have hmm:= @run_makeMap Tryz.prog
 have heq: ∀X:World,(Go.binOp BinOp.eql 101 (.map none) (.map none)).run Tryz.prog X= .ok (.bool true) X:=fun _=>by kernel_rfl
 have hown:((w1.setCell ⟨vb,0,none⟩ (.map (some w1.heap.size))).alloc (.map #[] 0)).ownsMap Tryz.prog 9 zf w1.heap.size 0 (DataW.map []):=by
  have h:=World.ownsMap_made (H:=Unit) (w1.setCell ⟨vb,0,none⟩ (.map (some w1.heap.size))) Tryz.prog 9 zf
  simpa using h
 have HB1:=Lib.hid hb1
 have HO:=Lib.hid hown
 have HHV:=Lib.hid hv1
 clear hown hb1 hv1
 go_wp2_with (at_mapUpdate;go_must (refine wpList_mapUpdate_own _ rfl _ _ _ 101 rfl 9 96 rM Tryz.underlying101 zf w1.heap.size 0 (DataW.map []) rfl HO.out (by decide) _ _ (KL nm) rfl rfl (KL.key HN.out) (dV nm val) [] (vT nm val) ?_);intro w2 hown2 JO;have Ai:=Lib.hid hown2;have HG2:=Lib.hid JO;clear hown2 JO)
 go_ret
 have hsz:=HB1.out.size
 have hb1:But (VB vb none) w w1:=But.of_below HB1.out
 have hb2:But (VB vb none) w ((w1.setCell ⟨vb,0,none⟩ (.map (some w1.heap.size))).alloc (.map #[] 0)):=(hb1.setCell (p:=⟨vb,0,none⟩) (Or.inl rfl) _).alloc _
 have hb3:But (VB vb none) w w2:=hb2.grown HG2.out (fun k e hk=>by have:=Option.some.inj e;omega)
 have hlt0:=aV HHV.out
 refine ⟨rfl,⟨w1.heap.size,hsz,?_,lU List.Pairwise.nil,(fun e=>by cases e),fun mb e=>?_⟩,hb3⟩
 ·exact (HG2.out.block vb (by simp;omega) (fun e=>by have:=Option.some.inj e;omega)).trans ((Below.heap_alloc _ _ vb (by simp;omega)).trans (wI HHV.out))
 ·obtain rfl:=Option.some.inj e
  have h2:=Ai.out
  exact ⟨_,World.ownsMap.mono (by simpa using h2) (by omega),rP.nil.put isMap_empty List.Pairwise.nil nm val⟩
set_option maxHeartbeats 4000000 in
theorem KU (vb mb N:Nat) (l:Vl) (nm val:ByteArray) (w:World) (hv:aZ w vb (some mb) N l) (hN:N<maxLen) (hn:nm.size≤maxLen) (hnm:rF nm=true):Calls Tryz.prog 17 #[.pointer (some ⟨vb,0,none⟩),.string nm,.string val] w fun e w'=>e= .returned (.bool true)∧aZ w' vb (some mb) (N+1) (iw nm val l)∧But (VB vb (some mb)) w w':=by
 have nY:=Lib.hid (oQ nm w (by unfold maxLen at hn;omega))
 rw [hnm] at nY
 have HV:=Lib.hid hv
 have HN:=Lib.hid hn
 have HNN:=Lib.hid hN
 clear hv hnm hn hN
 go_enter Tryz.func17,Tryz.ntmps17
 go_wp2_with fail
 refine nY.out.mono ?_
 rintro e w1 ⟨rfl,hb1⟩
 have Gf:=Lib.hid (HV.out.below hb1)
 obtain ⟨c0,_,hz⟩:=bU Gf.out.blk
 obtain ⟨D,hown,hrep⟩:=Gf.out.own mb rfl
 have heq: ∀X:World,(Go.binOp BinOp.eql 101 (.map (some mb)) (.map none)).run Tryz.prog X= .ok (.bool false) X:=fun _=>by kernel_rfl
 have HB1:=Lib.hid hb1
 have HO:=Lib.hid hown
 have HR:=Lib.hid hrep
 have HIS:=Lib.hid hown.isMap
 clear hown hb1 hrep
 go_wp2_with (at_mapUpdate;go_must (refine wpList_mapUpdate_own _ rfl _ _ _ 101 rfl 9 96 rM Tryz.underlying101 zf mb N D rfl HO.out HNN.out _ _ (KL nm) rfl rfl (KL.key HN.out) (dV nm val) [] (vT nm val) ?_);intro w2 hown2 JO;have Ai:=Lib.hid hown2;have HG2:=Lib.hid JO;clear hown2 JO)
 go_ret
 have hlt0:=Gf.out.lt
 have hne:=Gf.out.ne rfl
 refine ⟨rfl,⟨?_,lU Gf.out.F9,(fun e=>by cases e),fun mb' e=>?_⟩,(But.of_below HB1.out).grown HG2.out (fun k e _=>Or.inr e.symm)⟩
 ·exact (HG2.out.block vb hlt0 (fun e=>hne (Option.some.inj e).symm)).trans Gf.out.blk
 ·obtain rfl:=Option.some.inj e
  exact ⟨_,Ai.out,HR.out.put HIS.out Gf.out.F9 nm val⟩
theorem set_any (vb N:Nat) (mo:Option Nat) (l:Vl) (nm val:ByteArray) (w:World) (hv:aZ w vb mo N l) (hN:N<maxLen) (hn:nm.size≤maxLen):Calls Tryz.prog 17 #[.pointer (some ⟨vb,0,none⟩),.string nm,.string val] w fun e w'=>e= .returned (.bool (rF nm))∧(∃jq,(jq=mo∨(mo=none∧ ∃b,jq=some b∧w.heap.size≤b))∧aZ w' vb jq (N+1) (if rF nm=true then iw nm val l else l))∧But (VB vb mo) w w':=by
 cases hnm:rF nm with
 | false=>
  refine (Ul vb nm val w hn hnm).mono ?_
  rintro e w' ⟨rfl,hb⟩
  exact ⟨rfl,⟨mo,Or.inl rfl,(hv.below hb).more (by omega)⟩,But.of_below hb⟩
 | true=>
  cases mo with
  | none=>
   obtain rfl:=hv.none rfl
   refine (OT vb N nm val w hv hn hnm).mono ?_
   rintro e w' ⟨rfl,⟨mb,h1,h2⟩,hb⟩
   exact ⟨rfl,⟨some mb,Or.inr ⟨rfl,mb,rfl,h1⟩,h2⟩,hb⟩
  | some mb=>
   refine (KU vb mb N l nm val w hv hN hn hnm).mono ?_
   rintro e w' ⟨rfl,h1,hb⟩
   exact ⟨rfl,⟨some mb,Or.inl rfl,h1⟩,hb⟩
theorem Nc (vb N:Nat) (mo:Option Nat) (l:Vl) (w:World) (hv:aZ w vb mo N l) (hz: ∀x∈l,x.2.size≤9223372036854775807) (hT:TP w):zl w.heap.size (some ⟨vb,0,none⟩) w (jB l) (fun n=>numOf (jB l n)) where
 get n X hn hX:=by
  refine (get_any vb N mo l n X (hv.below hX) hn).mono ?_
  rintro e w' ⟨rfl,hb⟩
  exact ⟨⟨_,rfl⟩,hb⟩
 num n X hX:=zZ (jB l n) X (by
  unfold jB
  cases hl:dX l n with
  | none=>decide
  | some v=>exact hz _ ((iD hv.F9).1 hl)) (hT.below hX)
 fit n:=jc _
end Go.Proofs.YtacfglopionkfaaGreatDoor
namespace Go.Proofs.YtacfglopionkfaaGreatDoor
set_option maxRecDepth 100000
open Go.RowKit
def Bg (p:ByteArray × ByteArray):List Value:=[.string p.1,.string p.2]
theorem zN (p:ByteArray × ByteArray): ∀u∈Bg p,u.oneCell'=true:=fun u hu=>by
 rcases List.mem_cons.1 hu with rfl | hu
 ·rfl
 ·rw [List.mem_singleton.1 hu];rfl
def fE:Vl→List Value
 | []=>[]
 | t::r=>Bg t++fE r
theorem wE: ∀(A C:Vl),fE (A++C)=fE A++fE C
 | [],_=>rfl
 | t::r,C=>by show Bg t++fE (r++C)=_;rw [wE r C, ←List.append_assoc];rfl
theorem oM: ∀A:Vl,(fE A).length=A.length*2
 | []=>rfl
 | t::r=>by show (Bg t++fE r).length=(r.length+1)*2;rw [List.length_append,oM r];show 2+_=_;omega
theorem zI: ∀(A:Vl) (k:Nat) (t:ByteArray × ByteArray),A[k]? =some t→(fE A)[k*2]? =some (.string t.1)∧(fE A)[k*2+1]? =some (.string t.2)
 | [],_,_,h=>by simp at h
 | u::r,0,t,h=>by
  have e:u=t:=Option.some.inj h
  subst e
  exact ⟨rfl,rfl⟩
 | u::r,k+1,t,h=>by
  obtain ⟨h1,h2⟩:=zI r k t (by simpa using h)
  rw [show (k+1)*2=k*2+2 by omega]
  show (Bg u++fE r)[k*2+2]? =_∧(Bg u++fE r)[k*2+2+1]? =_
  rw [List.getElem?_append_right (by show 2≤_;omega),List.getElem?_append_right (by show 2≤_;omega)]
  show (fE r)[k*2+2 - 2]? =_∧(fE r)[k*2+2+1 - 2]? =_
  rw [show k*2+2 - 2=k*2 by omega,show k*2+2+1 - 2=k*2+1 by omega]
  exact ⟨h1,h2⟩
theorem yI: ∃i z,Tryz.prog.info? 96=some i∧i.zero=some z∧i.size=2∧i.bytes=32∧z.cells.size=2:=by
 have h:(Tryz.prog.info? 96).map (fun i=>(i.zero.map (·.cells.size),i.size,i.bytes))=some (some 2,2,32):=by kernel_rfl
 obtain ⟨i,hi,hzz⟩:=Option.map_eq_some_iff.1 h
 simp only [Prod.mk.injEq] at hzz
 obtain ⟨z,hz,hs⟩:=Option.map_eq_some_iff.1 hzz.1
 exact ⟨i,z,hi,hz,hzz.2.1,hzz.2.2,hs⟩
def VS (w:World) (v:Value) (l:Vl):Prop:=
 (l=[]∧ ∃a cap,v= .slice a 0 cap)∨ ∃b o cap,v= .slice (some ⟨b,o,none⟩) l.length cap∧b<w.heap.size∧ ∀(j:Nat) (p:ByteArray × ByteArray),l[j]? =some p→w.cell? ⟨b,o+j*2,none⟩=some (.string p.1)∧w.cell? ⟨b,o+j*2+1,none⟩=some (.string p.2)
theorem VS.but {w w':World} {v:Value} {l:Vl} (h:VS w v l) (hk: ∀b,b<w.heap.size→(∀o cap,v= .slice (some ⟨b,o,none⟩) l.length cap→w'.heap[b]? =w.heap[b]?)) (hs:w.heap.size≤w'.heap.size):VS w' v l:=by
 rcases h with h | ⟨b,o,cap,hv,hb,hc⟩
 ·exact Or.inl h
 ·have e:=hk b hb o cap hv
  refine Or.inr ⟨b,o,cap,hv,by omega,fun j p hj=>?_⟩
  obtain ⟨h1,h2⟩:=hc j p hj
  exact ⟨(World.cell?_of_block (w:=w) e).trans h1,(World.cell?_of_block (w:=w) e).trans h2⟩
theorem VS.below {w w':World} {v:Value} {l:Vl} (h:VS w v l) (hb:Below w.heap.size w w'):VS w' v l:=h.but (fun b hlt _ _ _=>hb.block b hlt) hb.size
theorem VS.xJ {w:World} {B:Nat} {v:Value} {l:Vl} (h:w.ownsRow B 96 2 v l.length (fE l)):VS w v l:=by
 rcases h.2 with ⟨rfl,h0⟩ | ⟨g,cap,cur,rfl,_,hg,_,_,_,ht⟩
 ·exact Or.inl ⟨List.length_eq_zero_iff.1 h0,_,_,rfl⟩
 ·refine Or.inr ⟨g,0,cap,rfl,aV hg,fun j p hj=>?_⟩
  have hjl:=(List.getElem?_eq_some_iff.1 hj).1
  obtain ⟨h1,h2⟩:=zI l j p hj
  rw [←ht,List.getElem?_take,if_pos (by omega)] at h1 h2
  rw [Nat.zero_add,Lib.cell_of_heap hg,Lib.cell_of_heap hg]
  rw [←Array.getElem?_toList, ←Array.getElem?_toList]
  exact ⟨h1,h2⟩
end Go.Proofs.YtacfglopionkfaaGreatDoor
