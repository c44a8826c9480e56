import Derived.Test.YtacfglopionkfaaGreatDoorKMm
import Derived.Test.YtacfglopionkfaaGreatDoorKMc
import Derived.Maps.OwnSet
import Derived.Test.YtacfglopionkfaaGreatDoorArErr
import Derived.Maps.OwnOps
import Derived.Test.YtacfglopionkfaaGreatDoorAcRx
namespace Go.Proofs.YtacfglopionkfaaGreatDoor
set_option maxHeartbeats 8000000
set_option maxRecDepth 100000
open Go.RowKit Go.WideMaps Go.Maps
def Sm:List Int→Nat→Int
 | [],_=>0
 | x::l,i=>if i=l.length then x else Sm l i
def iy (w:World) (b:Nat) (v mp:Value) (l:List Int) (a s:Nat):Prop:= ∃st,jM w b v mp st l.length a s∧ ∀i,i<l.length→st i=Sm l i
theorem iy.push {w:World} {b:Nat} {v mp:Value} {l:List Int} {a s:Nat} {st:Nat→Int} {n:Int} (h:jM w b v mp (fun i=>if i=l.length then n else st i) (l.length+1) a s) (hs: ∀i,i<l.length→st i=Sm l i):iy w b v mp (n::l) a s:=by
 refine ⟨_,h,fun i hi=>?_⟩
 show (if i=l.length then n else st i)=if i=l.length then n else Sm l i
 by_cases e:i=l.length
 ·rw [if_pos e,if_pos e]
 ·rw [if_neg e,if_neg e]
  exact hs i (by simp at hi;omega)
theorem FD (x:Int) (l:List Int):Sm (x::l) l.length=x:=if_pos rfl
theorem iy.pop {w:World} {b:Nat} {v mp:Value} {x:Int} {l:List Int} {a s:Nat} {st:Nat→Int} (h:jM w b v mp st l.length a s) (hs: ∀i,i<(x::l).length→st i=Sm (x::l) i):iy w b v mp l a s:=by
 refine ⟨_,h,fun i hi=>?_⟩
 have h1:st i=if i=l.length then x else Sm l i:=hs i (by simp;omega)
 rw [if_neg (by omega)] at h1
 exact h1
theorem rM:Keyed Tryz.prog 9:=string_keyed Tryz.underlying9
theorem Fp (w:World):(zeroValue 2).run Tryz.prog w= .ok (.int .i64 0) w:=by kernel_rfl
def KL (s:ByteArray):Lit:= .string s.data.toList
theorem KL.inj {s t:ByteArray} (h:KL s=KL t):s=t:=by
 unfold KL at h
 injection h with h
 cases s with
 | mk a=>cases t with
  | mk b=>simp at h;rw [h]
theorem KL.key {s:ByteArray} (h:s.size≤maxLen):keyOf Tryz.prog 9 (.string s)=some (KL s):=keyOf_string_mk Tryz.underlying9 h
def Rep (D:DataW Unit) (e:Asc):Prop:= ∀s:ByteArray,Maps.has D (KL s)=(look e s).isSome∧ ∀v,look e s=some v→ ∀z,D.atKey (KL s) z= .lit (.int .i64 v)
theorem Rep.nil:Rep (.map []) []:=fun _=>⟨rfl,fun _ h=>by cases h⟩
theorem Rep.put {D:DataW Unit} {e:Asc} (h:Rep D e) (hD:IsMap D) (s:ByteArray) (v:Int):Rep (D.put (KL s) (.lit (.int .i64 v))) ((s,v)::e):=by
 intro t
 have hk:WideAt.IsKeyLit (KL s):=trivial
 by_cases hst:s=t
 ·subst hst
  have e1:look ((s,v)::e) s=some v:=by simp [look]
  rw [e1]
  exact ⟨has_put_same hD hk _,fun u hu z=>by rw [atKey_put_same hD hk];cases hu;rfl⟩
 ·have hne:KL t≠KL s:=fun h=>hst (KL.inj h).symm
  have e1:look ((s,v)::e) t=look e t:=by simp [look,hst]
  rw [e1,has_put_other hne]
  exact ⟨(h t).1,fun u hu z=>by rw [atKey_put_other hne];exact (h t).2 u hu z⟩
def nU (w:World) (b:Nat) (e:Asc):Prop:= ∃D,w.ownsMap Tryz.prog 9 (plainElem (H:=Unit) Tryz.prog 2) b e.length D∧Rep D e
theorem nU.lt {w:World} {b:Nat} {e:Asc} (h:nU w b e):b<w.heap.size:=by
 obtain ⟨D,h,_⟩:=h
 exact h.lt
theorem nU.same {w w':World} {b:Nat} {e:Asc} (h:nU w b e) (hb:w'.heap[b]? =w.heap[b]?):nU w' b e:=by
 obtain ⟨D,⟨es,clock,h1,h2⟩,hr⟩:=h
 exact ⟨D,⟨es,clock,hb.trans h1,h2⟩,hr⟩
theorem nU.below {w w':World} {b:Nat} {e:Asc} (h:nU w b e) (hb:Below w.heap.size w w'):nU w' b e:=h.same (hb.block b h.lt)
theorem nU.made (w:World):nU (w.alloc (.map #[] 0)) w.heap.size []:=⟨_,World.ownsMap_made w _ _ _,Rep.nil⟩
section
variable {H:Type} {P:Program}
theorem ug (w:World) {o:Oper} {a:Act} {K:Act→World→Prop} {Q:Exit→Act→World→Prop} (m x v:Operand) (t:TypeId) (hop:o.op=Op.mapUpdate t m x v)
  (k e:TypeId) (Kd:Keyed P k) (ht:P.underlying t=some (.map k e)) (R:Value→Option (DataW H × List MemPlace)) (b n:Nat) (D:DataW H)
  (hm:a.eval m= .map (some b)) (hown:w.ownsMap P k R b n D) (hn:n<maxLen) (key val:Value) (kl:Lit) (hx:a.eval x=key) (hv:a.eval v=val) (hkey:keyOf P k key=some kl)
  (d:DataW H) (ps:List MemPlace) (hval:R val=some (d,ps))
  (hK: ∀w',w'.ownsMap P k R b (n+1) (D.put kl d)→w.grownBy w' (some b)→K (a.put o.dst undef) w'):o.wp P a w K Q:=by
 obtain ⟨w',hrun,r1,r2⟩:=hown.update Kd ht hn hkey hval
 unfold Oper.wp
 simp [execOp,hop,hm,hx,hv,hrun,Result.andThen]
 exact hK w' r1 r2
end
structure bf (B mb mp:Nat) (v:Option Addr) (w0:World) (m:Ms) (s:Nat) (X:World):Prop where
 ma:iy X mb (.pointer v) (.map (some mp)) m.st m.a s
 se:nU X mp m.se
 ch:Below B w0 X
 lo:B≤mb∧B≤mp∧mb≠mp
end Go.Proofs.YtacfglopionkfaaGreatDoor
namespace Go.Proofs.YtacfglopionkfaaGreatDoor
set_option maxHeartbeats 8000000
set_option maxRecDepth 100000
open Go.RowKit Go.WideMaps Go.Maps
def I64 (x:Int):Prop:= -9223372036854775808≤x∧x≤9223372036854775807
theorem I64.wf {x:Int} (h:I64 x):(Lit.int .i64 x).wf=true:=by
 obtain ⟨h0,h1⟩:=h
 simp [Lit.wf,IntKind.min,IntKind.max,IntKind.signed,IntKind.bits]
 omega
theorem I64.JU {x:Int} (h:(Lit.int .i64 x).wf=true):I64 x:=by
 simp [Lit.wf,IntKind.min,IntKind.max,IntKind.signed,IntKind.bits] at h
 unfold I64
 omega
theorem nZ {w:World} {b o:Nat} {u:Value} (h:w.cell? ⟨b,o,none⟩=some u):b<w.heap.size:=by
 rcases Nat.lt_or_ge b w.heap.size with h' | h'
 ·exact h'
 ·simp [World.cell?,Array.getElem?_eq_none h'] at h
theorem jM.same {w w':World} {b:Nat} {v mp:Value} {st:Nat→Int} {h a s:Nat} (m:jM w b v mp st h a s) (hb:w'.heap[b]? =w.heap[b]?):jM w' b v mp st h a s where
 vs:=by rw [World.cell?_of_block (w:=w) hb];exact m.vs
 ms:=by rw [World.cell?_of_block (w:=w) hb];exact m.ms
 sk i hi:=by rw [World.cell?_of_block (w:=w) hb];exact m.sk i hi
 hh:=by rw [World.cell?_of_block (w:=w) hb];exact m.hh
 aa:=by rw [World.cell?_of_block (w:=w) hb];exact m.aa
 ss:=by rw [World.cell?_of_block (w:=w) hb];exact m.ss
 fz o:=by have:=m.fz o;simp only [World.frozen?] at this⊢;rw [hb];exact this
theorem jM.lt {w:World} {b:Nat} {v mp:Value} {st:Nat→Int} {h a s:Nat} (m:jM w b v mp st h a s):b<w.heap.size:=nZ m.vs
theorem iy.lt {w:World} {b:Nat} {v mp:Value} {l:List Int} {a s:Nat} (m:iy w b v mp l a s):b<w.heap.size:=by
 obtain ⟨st,m,_⟩:=m
 exact m.lt
theorem iy.same {w w':World} {b:Nat} {v mp:Value} {l:List Int} {a s:Nat} (m:iy w b v mp l a s) (hb:w'.heap[b]? =w.heap[b]?):iy w' b v mp l a s:=by
 obtain ⟨st,m,h⟩:=m
 exact ⟨st,m.same hb,h⟩
theorem bf.below {B mb mp:Nat} {v:Option Addr} {w0 X X':World} {m:Ms} {s:Nat} (h:bf B mb mp v w0 m s X) (hB:B≤X.heap.size) (hb:Below X.heap.size X X'):bf B mb mp v w0 m s X':=
 ⟨h.ma.same (hb.block mb h.ma.lt),h.se.below hb,h.ch.trans (hb.mono hB),h.lo⟩
theorem bf.size {B mb mp:Nat} {v:Option Addr} {w0 X:World} {m:Ms} {s:Nat} (h:bf B mb mp v w0 m s X):B≤X.heap.size:=Nat.le_trans h.lo.1 (Nat.le_of_lt h.ma.lt)
theorem bf.ch2 {B mb mp:Nat} {v:Option Addr} {w0 X X':World} {m m':Ms} {s s':Nat} (h:bf B mb mp v w0 m s X) (hm:iy X' mb (.pointer v) (.map (some mp)) m'.st m'.a s') (he:m'.se=m.se) (hc:Ch mb X X'):bf B mb mp v w0 m' s' X':=
 ⟨hm,by rw [he];exact h.se.same (hc.2 mp h.se.lt (fun e=>h.lo.2.2 e.symm)),h.ch.trans (hc.1.mono h.lo.1),h.lo⟩
theorem Bo (B mb mp:Nat) (v:Option Addr) (w0:World) (m:Ms) (s:Nat) (X:World) (n:Int) (h:bf B mb mp v w0 m s X) (hl:m.st.length<1024):
  Calls Tryz.prog 137 #[.pointer (some ⟨mb,0,none⟩),.int .i64 n] X fun e w'=>e= .returned (.tuple #[])∧bf B mb mp v w0 ⟨m.a,n::m.st,m.se⟩ s w'∧Ch mb X w':=by
 obtain ⟨st,hm,hs⟩:=h.ma
 refine (push_any mb _ _ st m.st.length m.a s n X hm hl).mono ?_
 rintro e w' ⟨rfl,hm',hc⟩
 exact ⟨rfl,h.ch2 (m':=⟨m.a,n::m.st,m.se⟩) (iy.push hm' hs) rfl hc,hc⟩
theorem tC (B mb mp:Nat) (v:Option Addr) (w0:World) (a:Nat) (x:Int) (r:List Int) (se:Asc) (s:Nat) (X:World) (h:bf B mb mp v w0 ⟨a,x::r,se⟩ s X) (hl:r.length<1024):
  Calls Tryz.prog 66 #[.pointer (some ⟨mb,0,none⟩)] X fun e w'=>e= .returned (.int .i64 x)∧bf B mb mp v w0 ⟨a,r,se⟩ s w'∧Ch mb X w':=by
 obtain ⟨st,hm,hs⟩:=h.ma
 refine (pop_any mb _ _ st r.length a s X hm hl).mono ?_
 rintro e w' ⟨rfl,hm',hc⟩
 have ht:=hs r.length (by simp)
 rw [FD] at ht
 exact ⟨by rw [ht],h.ch2 (m':=⟨a,r,se⟩) (iy.pop hm' hs) rfl hc,hc⟩
structure zl (B:Nat) (v:Option Addr) (w0:World) (val:ByteArray→ByteArray) (NV:ByteArray→Int × Nat):Prop where
 get: ∀(n:ByteArray) X,n.size≤maxLen→Below B w0 X→Calls Tryz.prog 20 #[.pointer v,.string n] X fun e w'=>(∃b,e= .returned (.tuple #[.string (val n),.bool b]))∧Below X.heap.size X w'
 num: ∀(n:ByteArray) X,Below B w0 X→Calls Tryz.prog 165 #[.string (val n)] X fun e w'=>e= .returned (.tuple #[.int .i64 (NV n).1,.int .i64 ((NV n).2:Nat)])∧Below X.heap.size X w'
 fit: ∀n,I64 (NV n).1∧(NV n).2≤21
theorem Ez (B mb mp:Nat) (v:Option Addr) (w0:World) (val:ByteArray→ByteArray) (NV:ByteArray→Int × Nat) (m:Ms) (s:Nat) (X:World) (n:ByteArray) (hE:zl B v w0 val NV) (h:bf B mb mp v w0 m s X) (hn:n.size≤maxLen):
  Calls Tryz.prog 136 #[.pointer (some ⟨mb,0,none⟩),.string n] X fun e w'=>(∃(x:Int) (c:Nat),e= .returned (.tuple #[.int .i64 x,.int .i64 (c:Nat)])∧I64 x∧c≤21∧ ∀p,jZ NV n p m.se=if c=0 then .ok x m.se else .bad c p)∧Below X.heap.size X w':=by
 have HR:=Lib.hid h
 obtain ⟨D,hown,hrep⟩:=h.se
 have DT:=Lib.hid hrep
 obtain ⟨hhas,hat⟩:=hrep n
 have HAT:=Lib.hid hat
 have Zj:=Lib.hid hhas
 obtain ⟨st,hm,_⟩:=h.ma
 have c0:=hm.vs
 have c1:=hm.ms
 have Du:=hm.lt
 have HEg:=Lib.hid hE.get
 have HEn:=Lib.hid hE.num
 have HEf:=Lib.hid hE.fit
 have HN:=Lib.hid hn
 clear h hrep hhas hat hm hE
 cases hlk:look m.se n with
 | some u=>
  have hh:Maps.has D (KL n)=true:=by rw [Zj.out,hlk];rfl
  have Yv:=Lib.hid hlk
  have Q9:=Lib.hid hh
  clear hlk hh
  go_enter Tryz.func136,Tryz.ntmps136
  go_wp2_with (first | (at_lookup;refine wpList_lookup_own_ok_int _ rfl _ _ 118 rfl 9 2 .i64 rM Tryz.underlying118 Tryz.underlying2 (Fp _) mp _ D rfl hown _ _ rfl (KL.key HN.out) ?_;intro c hat hwc;rw [Q9.out]))
  go_ret2
  have e1:=(HAT.out u Yv.out _).symm.trans hat
  simp only [DataW.lit.injEq,Lit.int.injEq,true_and] at e1
  subst e1
  exact ⟨⟨u,0,rfl,I64.JU hwc,Nat.zero_le _,fun p=>by unfold jZ;rw [Yv.out];rfl⟩,Below.refl _ _⟩
 | none=>
  have hh:Maps.has D (KL n)=false:=by rw [Zj.out,hlk];rfl
  have Yv:=Lib.hid hlk
  have Q9:=Lib.hid hh
  clear hlk hh
  go_enter Tryz.func136,Tryz.ntmps136
  go_wp2_with (first | (at_lookup;refine wpList_lookup_own_ok_int _ rfl _ _ 118 rfl 9 2 .i64 rM Tryz.underlying118 Tryz.underlying2 (Fp _) mp _ D rfl hown _ _ rfl (KL.key HN.out) ?_;intro c hat hwc;rw [Q9.out]))
  refine (HEg.out n X HN.out HR.out.ch).mono ?_
  rintro e w1 ⟨⟨b,rfl⟩,hb1⟩
  have HB1:=Lib.hid hb1
  have HB1B:=Lib.hid (HR.out.ch.trans (hb1.mono HR.out.size))
  clear hb1 hat
  go_wp2_with fail
  refine (HEn.out n w1 HB1B.out).mono ?_
  rintro e w2 ⟨rfl,hb2⟩
  have HB2:=Lib.hid (HB1.out.trans (hb2.mono HB1.out.size))
  clear hb2
  go_wp2_with fail
  go_ret2
  exact ⟨⟨_,_,rfl,(HEf.out n).1,(HEf.out n).2,fun p=>by unfold jZ;rw [Yv.out]⟩,HB2.out⟩
set_option maxHeartbeats 4000000 in
theorem Zp (s:Nat→Addr) (w:World) (hs:Er w s) (k:Nat) (h1:1≤k) (h2:k≤21):
  Calls Tryz.prog 71 #[.int .i64 k] w fun e w'=>e= .returned (bot (s k))∧w=w':=by
 have hv:=hs.var k h1 h2
 have HS:=Lib.hid hs
 clear hs
 unfold bot
 obtain rfl | rfl | rfl | rfl | rfl | rfl | rfl | rfl | rfl | rfl | rfl | rfl | rfl | rfl | rfl | rfl | rfl | rfl | rfl | rfl | rfl:k=1∨k=2∨k=3∨k=4∨k=5∨k=6∨k=7∨k=8∨k=9∨k=10∨k=11∨k=12∨k=13∨k=14∨k=15∨k=16∨k=17∨k=18∨k=19∨k=20∨k=21:=by omega
 all_goals
  try simp only [Nat.reduceSub] at hv
  go_enter Tryz.func71,Tryz.ntmps71
  go_wp2
  go_ret
  exact ⟨rfl,rfl⟩
set_option maxHeartbeats 4000000 in
theorem nK (s:Nat→Addr) (w:World) (hs:Er w s) (c:Nat) (p:Nat) (h1:1≤c) (h2:c≤21):
  Calls Tryz.prog 64 #[.int .i64 c,.int .i64 p] w fun e w'=>(e= .returned (.iface 89 (.pointer (some ⟨w.heap.size+1,0,none⟩)))∧
   ErrAt w' s c p (.iface 89 (.pointer (some ⟨w.heap.size+1,0,none⟩))))∧Below w.heap.size w w':=by
 have HO:=Lib.hid (Zp s w hs c h1 h2)
 unfold bot at HO
 clear hs
 go_enter Tryz.func64,Tryz.ntmps64
 go_wp2_with (first | (go_at_call 71;refine HO.out.mono ?_;rintro e w' ⟨rfl,rfl⟩) | (go_at_call 70;refine (yZ _ _ _ _).mono ?_;rintro e w' ⟨rfl,rfl⟩) | (go_at_call 69;refine (yY _ _ _ _).mono ?_;rintro e w' ⟨rfl,rfl⟩))
 go_ret
 refine ⟨⟨rfl,?_⟩,((Below.refl _ _).alloc (Nat.le_refl _) _).alloc (by simp) _⟩
 refine ⟨w.heap.size+1,_,rfl,?_,w.heap.size,_,rfl,?_,rfl⟩
 ·show ((w.heap.push _).push _)[w.heap.size+1]? =_
  rw [Array.getElem?_push,if_pos (by simp)]
  rfl
 ·show ((w.heap.push _).push _)[w.heap.size]? =_
  rw [Array.getElem?_push,if_neg (by simp),Array.getElem?_push,if_pos rfl]
  rfl
end Go.Proofs.YtacfglopionkfaaGreatDoor
namespace Go.Proofs.YtacfglopionkfaaGreatDoor
set_option maxHeartbeats 8000000
set_option maxRecDepth 100000
open Go.RowKit Go.WideMaps Go.Maps
theorem kU (x:Int):I64 (wrap64 x):=I64.JU (wrap64_wf x)
theorem zK (op:ByteArray) (l r x:Int) (h:kK op l r=some x) (w:World):Calls Tryz.prog 138 #[.string op,.int .i64 l,.int .i64 r] w fun e w'=>e= .returned (.int .i64 x)∧w=w':=by
 unfold kK at h
 by_cases c0:op=JR
 ·rw [if_pos c0] at h
  obtain rfl:=Option.some.inj h
  subst c0
  exact KX l r w
 rw [if_neg c0] at h
 by_cases c1:op=SX
 ·rw [if_pos c1] at h
  obtain rfl:=Option.some.inj h
  subst c1
  exact O1 l r w
 rw [if_neg c1] at h
 by_cases c2:op=⟨#[117,43]⟩
 ·rw [if_pos c2] at h
  obtain rfl:=Option.some.inj h
  subst c2
  exact Hl l r w
 rw [if_neg c2] at h
 by_cases c3:op=⟨#[117,45]⟩
 ·rw [if_pos c3] at h
  obtain rfl:=Option.some.inj h
  subst c3
  exact Ep l r w
 rw [if_neg c3] at h
 by_cases c4:op=⟨#[45]⟩
 ·rw [if_pos c4] at h
  obtain rfl:=Option.some.inj h
  subst c4
  exact Hq l r w
 rw [if_neg c4] at h
 by_cases c5:op=⟨#[126]⟩
 ·rw [if_pos c5] at h
  obtain rfl:=Option.some.inj h
  subst c5
  exact OZ l r w
 rw [if_neg c5] at h
 by_cases c6:op=⟨#[94]⟩
 ·rw [if_pos c6] at h
  obtain rfl:=Option.some.inj h
  subst c6
  exact OW l r w
 rw [if_neg c6] at h
 by_cases c7:op=⟨#[38]⟩
 ·rw [if_pos c7] at h
  obtain rfl:=Option.some.inj h
  subst c7
  exact O6 l r w
 rw [if_neg c7] at h
 by_cases c8:op=⟨#[124]⟩
 ·rw [if_pos c8] at h
  obtain rfl:=Option.some.inj h
  subst c8
  exact Uo l r w
 rw [if_neg c8] at h
 by_cases c9:op=⟨#[47]⟩
 ·rw [if_pos c9] at h
  by_cases h0:r=0
  ·rw [if_pos h0] at h;cases h
  rw [if_neg h0] at h
  obtain rfl:=Option.some.inj h
  subst c9
  exact O5 l r h0 w
 rw [if_neg c9] at h
 by_cases c10:op=⟨#[37]⟩
 ·rw [if_pos c10] at h
  by_cases h0:r=0
  ·rw [if_pos h0] at h;cases h
  rw [if_neg h0] at h
  obtain rfl:=Option.some.inj h
  subst c10
  exact O4 l r h0 w
 rw [if_neg c10] at h
 by_cases c11:op=⟨#[60,60]⟩
 ·rw [if_pos c11] at h
  obtain rfl:=Option.some.inj h
  subst c11
  exact OY l r w
 rw [if_neg c11] at h
 by_cases c12:op=⟨#[62,62]⟩
 ·rw [if_pos c12] at h
  obtain rfl:=Option.some.inj h
  subst c12
  exact OX l r w
 rw [if_neg c12] at h
 by_cases c13:op=⟨#[116,114,117,116,104]⟩
 ·rw [if_pos c13] at h
  obtain rfl:=Option.some.inj h
  subst c13
  exact Ho l r w
 rw [if_neg c13] at h
 by_cases c14:op=⟨#[33,61]⟩
 ·rw [if_pos c14] at h
  obtain rfl:=Option.some.inj h
  subst c14
  exact Ur l r w
 rw [if_neg c14] at h
 by_cases c15:op=⟨#[33]⟩
 ·rw [if_pos c15] at h
  obtain rfl:=Option.some.inj h
  subst c15
  exact KY l r w
 rw [if_neg c15] at h
 by_cases c16:op=⟨#[61,61]⟩
 ·rw [if_pos c16] at h
  obtain rfl:=Option.some.inj h
  subst c16
  exact Ux l r w
 rw [if_neg c16] at h
 by_cases c17:op=⟨#[62]⟩
 ·rw [if_pos c17] at h
  obtain rfl:=Option.some.inj h
  subst c17
  exact Uu l r w
 rw [if_neg c17] at h
 by_cases c18:op=⟨#[60]⟩
 ·rw [if_pos c18] at h
  obtain rfl:=Option.some.inj h
  subst c18
  exact Us l r w
 rw [if_neg c18] at h
 by_cases c19:op=⟨#[62,61]⟩
 ·rw [if_pos c19] at h
  obtain rfl:=Option.some.inj h
  subst c19
  exact Uw l r w
 rw [if_neg c19] at h
 by_cases c20:op=⟨#[60,61]⟩
 ·rw [if_pos c20] at h
  obtain rfl:=Option.some.inj h
  subst c20
  exact Ut l r w
 rw [if_neg c20] at h
 cases h
theorem KD {l r:Int} (hl:I64 l):I64 (l.tmod r):=by
 unfold I64 at*
 have h1:=Int.natAbs_tmod l r
 have h2:l.natAbs % r.natAbs≤l.natAbs:=Nat.mod_le _ _
 have h3:=Int.tmod_nonneg r (a:=l)
 have h4:l≤0→l.tmod r≤0:=fun h=>by
  have:=Int.tmod_nonneg r (a:= -l) (by omega)
  rw [Int.neg_tmod] at this
  omega
 omega
theorem OO {l:Int} (n:Nat) (hl:I64 l):I64 (l / 2 ^ n):=by
 unfold I64 at*
 have hp:(0:Int)<2 ^ n:=Int.pow_pos (by decide)
 have h1:(1:Int)≤2 ^ n:=hp
 constructor
 ·by_cases h:l<0
  ·have:=Int.le_ediv_of_mul_le hp (show l*2 ^ n≤l from by
    have:=Int.mul_le_mul_of_nonneg_left h1 (show 0≤ -l by omega)
    rw [Int.mul_one,Int.neg_mul] at this
    omega)
   omega
  ·have:=Int.ediv_nonneg (Int.not_lt.1 h) (Int.le_of_lt hp)
   omega
 ·by_cases h:l<0
  ·have:=Int.ediv_neg_of_neg_of_pos h hp
   omega
  ·have:=Int.ediv_le_self (2 ^ n) (Int.not_lt.1 h)
   omega
theorem rW {op:ByteArray} {l r x:Int} (h:kK op l r=some x) (hl:I64 l):I64 x:=by
 unfold kK at h
 by_cases c0:op=JR
 ·rw [if_pos c0] at h
  obtain rfl:=Option.some.inj h
  exact kU _
 rw [if_neg c0] at h
 by_cases c1:op=SX
 ·rw [if_pos c1] at h
  obtain rfl:=Option.some.inj h
  exact kU _
 rw [if_neg c1] at h
 by_cases c2:op=⟨#[117,43]⟩
 ·rw [if_pos c2] at h
  obtain rfl:=Option.some.inj h
  exact kU _
 rw [if_neg c2] at h
 by_cases c3:op=⟨#[117,45]⟩
 ·rw [if_pos c3] at h
  obtain rfl:=Option.some.inj h
  exact kU _
 rw [if_neg c3] at h
 by_cases c4:op=⟨#[45]⟩
 ·rw [if_pos c4] at h
  obtain rfl:=Option.some.inj h
  exact kU _
 rw [if_neg c4] at h
 by_cases c5:op=⟨#[126]⟩
 ·rw [if_pos c5] at h
  obtain rfl:=Option.some.inj h
  exact ⟨bits_lo_i64 _ _ _,bits_hi_i64 _ _ _⟩
 rw [if_neg c5] at h
 by_cases c6:op=⟨#[94]⟩
 ·rw [if_pos c6] at h
  obtain rfl:=Option.some.inj h
  exact ⟨bits_lo_i64 _ _ _,bits_hi_i64 _ _ _⟩
 rw [if_neg c6] at h
 by_cases c7:op=⟨#[38]⟩
 ·rw [if_pos c7] at h
  obtain rfl:=Option.some.inj h
  exact ⟨bits_lo_i64 _ _ _,bits_hi_i64 _ _ _⟩
 rw [if_neg c7] at h
 by_cases c8:op=⟨#[124]⟩
 ·rw [if_pos c8] at h
  obtain rfl:=Option.some.inj h
  exact ⟨bits_lo_i64 _ _ _,bits_hi_i64 _ _ _⟩
 rw [if_neg c8] at h
 by_cases c9:op=⟨#[47]⟩
 ·rw [if_pos c9] at h
  by_cases h0:r=0
  ·rw [if_pos h0] at h;cases h
  rw [if_neg h0] at h
  obtain rfl:=Option.some.inj h
  exact kU _
 rw [if_neg c9] at h
 by_cases c10:op=⟨#[37]⟩
 ·rw [if_pos c10] at h
  by_cases h0:r=0
  ·rw [if_pos h0] at h;cases h
  rw [if_neg h0] at h
  obtain rfl:=Option.some.inj h
  exact KD hl
 rw [if_neg c10] at h
 by_cases c11:op=⟨#[60,60]⟩
 ·rw [if_pos c11] at h
  obtain rfl:=Option.some.inj h
  exact kU _
 rw [if_neg c11] at h
 by_cases c12:op=⟨#[62,62]⟩
 ·rw [if_pos c12] at h
  obtain rfl:=Option.some.inj h
  exact OO _ hl
 rw [if_neg c12] at h
 by_cases c13:op=⟨#[116,114,117,116,104]⟩
 ·rw [if_pos c13] at h
  obtain rfl:=Option.some.inj h
  exact (by split<;>(unfold I64;omega))
 rw [if_neg c13] at h
 by_cases c14:op=⟨#[33,61]⟩
 ·rw [if_pos c14] at h
  obtain rfl:=Option.some.inj h
  exact (by split<;>(unfold I64;omega))
 rw [if_neg c14] at h
 by_cases c15:op=⟨#[33]⟩
 ·rw [if_pos c15] at h
  obtain rfl:=Option.some.inj h
  exact (by split<;>(unfold I64;omega))
 rw [if_neg c15] at h
 by_cases c16:op=⟨#[61,61]⟩
 ·rw [if_pos c16] at h
  obtain rfl:=Option.some.inj h
  exact (by split<;>(unfold I64;omega))
 rw [if_neg c16] at h
 by_cases c17:op=⟨#[62]⟩
 ·rw [if_pos c17] at h
  obtain rfl:=Option.some.inj h
  exact (by split<;>(unfold I64;omega))
 rw [if_neg c17] at h
 by_cases c18:op=⟨#[60]⟩
 ·rw [if_pos c18] at h
  obtain rfl:=Option.some.inj h
  exact (by split<;>(unfold I64;omega))
 rw [if_neg c18] at h
 by_cases c19:op=⟨#[62,61]⟩
 ·rw [if_pos c19] at h
  obtain rfl:=Option.some.inj h
  exact (by split<;>(unfold I64;omega))
 rw [if_neg c19] at h
 by_cases c20:op=⟨#[60,61]⟩
 ·rw [if_pos c20] at h
  obtain rfl:=Option.some.inj h
  exact (by split<;>(unfold I64;omega))
 rw [if_neg c20] at h
 cases h
structure oq (B mb mp bx:Nat) (v:Option Addr) (w0:World) (cs:Array Value) (m:Ms) (s:Nat) (Y:World):Prop where
 run:bf B mb mp v w0 m s Y
 blk:Y.heap[bx]? =some (.cells cs 156 (0,0))
 ne:bx≠mb∧bx≠mp∧B≤bx
theorem oq.ch {B mb mp bx:Nat} {v:Option Addr} {w0:World} {cs:Array Value} {m m':Ms} {s s':Nat} {Y Y':World} (h:oq B mb mp bx v w0 cs m s Y) (hr:bf B mb mp v w0 m' s' Y') (hc:Ch mb Y Y'):oq B mb mp bx v w0 cs m' s' Y':=
 ⟨hr,(hc.2 bx (aV h.blk) h.ne.1).trans h.blk,h.ne⟩
theorem oq.below {B mb mp bx:Nat} {v:Option Addr} {w0:World} {cs:Array Value} {m:Ms} {s:Nat} {Y Y':World} (h:oq B mb mp bx v w0 cs m s Y) (hb:Below Y.heap.size Y Y'):oq B mb mp bx v w0 cs m s Y':=
 ⟨h.run.below h.run.size hb,jg h.blk hb,h.ne⟩
theorem oq.first {B mb mp:Nat} {v:Option Addr} {w0 X:World} {m:Ms} {s:Nat} (cs:Array Value) (h:bf B mb mp v w0 m s X):oq B mb mp X.heap.size v w0 cs m s (X.alloc (.cells cs 156)):=
 ⟨h.below h.size ((Below.refl _ _).alloc (Nat.le_refl _) _),dN X _,⟨fun e=>by have:=h.ma.lt;omega,fun e=>by have:=h.se.lt;omega,h.size⟩⟩
theorem GN (B mb mp:Nat) (v:Option Addr) (w0 X:World) (n:Int) (nm op:ByteArray) (p tg:Nat) (st:List Int) (a:Nat) (se:Asc) (s:Nat) (h:bf B mb mp v w0 ⟨a,st,se⟩ s X) (hl:st.length<1024):
  Calls Tryz.prog 98 #[.pointer (some ⟨mb,0,none⟩),.agg #[.int .i64 0,.int .i64 n,.string nm,.string op,.int .i64 p,.int .i64 tg]] X fun e w'=>e= .returned .nilIface∧bf B mb mp v w0 ⟨a,n::st,se⟩ s w':=by
 obtain ⟨cs,hcs⟩: ∃cs:Array Value,cs= #[.int .i64 0,.int .i64 n,.string nm,.string op,.int .i64 p,.int .i64 tg]:=⟨_,rfl⟩
 obtain ⟨W,hW⟩: ∃W,W=X.alloc (.cells cs 156):=⟨_,rfl⟩
 have fD:Hid (oq B mb mp X.heap.size v w0 cs ⟨a,st,se⟩ s W):=Lib.hid (by rw [hW];exact oq.first cs h)
 have dR:Hid (W=X.alloc (.cells #[.int .i64 0,.int .i64 n,.string nm,.string op,.int .i64 p,.int .i64 tg] 156)):=Lib.hid (by rw [hW,hcs])
 have pz:=Lib.hid hcs
 clear h hcs hW
 have hb1:=fD.out.blk
 rw [pz.out] at hb1
 obtain ⟨c0,c1,c2,c3,c4,c5,hz1⟩:=aH hb1
 clear hb1
 go_enter Tryz.func98,Tryz.ntmps98
 go_upto_region 1 with fail
 rw [←dR.out]
 go_wp2_with fail
 refine (Bo B mb mp v w0 _ s W n fD.out.run hl).mono ?_
 rintro e w1 ⟨rfl,hr1,hc1⟩
 have HR1:=Lib.hid hr1
 clear hr1 hc1
 go_wp2_with fail
 go_ret
 exact ⟨rfl,HR1.out⟩
theorem iy.place {w:World} {b:Nat} {v mp:Value} {l:List Int} {a s:Nat} (m:iy w b v mp l a s) (a':Nat):iy (w.setCell ⟨b,1027,none⟩ (.int .i64 (a':Nat))) b v mp l a' s:=by
 obtain ⟨st,m,h⟩:=m
 exact ⟨st,⟨aQ m.vs (by omega),aQ m.ms (by omega),fun i hi=>aQ (m.sk i hi) (by omega),aQ m.hh (by omega),oL m.aa,aQ m.ss (by omega),fun o=>by rw [World.frozen?_setCell];exact m.fz o⟩,h⟩
theorem iy.stepped {w:World} {b:Nat} {v mp:Value} {l:List Int} {a s:Nat} (m:iy w b v mp l a s) (s':Nat):iy (w.setCell ⟨b,1028,none⟩ (.int .i64 (s':Nat))) b v mp l a s':=by
 obtain ⟨st,m,h⟩:=m
 exact ⟨st,⟨aQ m.vs (by omega),aQ m.ms (by omega),fun i hi=>aQ (m.sk i hi) (by omega),aQ m.hh (by omega),aQ m.aa (by omega),oL m.ss,fun o=>by rw [World.frozen?_setCell];exact m.fz o⟩,h⟩
theorem iy.facts {w:World} {b:Nat} {v mp:Value} {l:List Int} {a s:Nat} (m:iy w b v mp l a s):w.cell? ⟨b,1027,none⟩=some (.int .i64 a)∧w.frozen? ⟨b,1027,none⟩=false∧w.cell? ⟨b,1028,none⟩=some (.int .i64 s)∧w.frozen? ⟨b,1028,none⟩=false∧w.cell? ⟨b,1,none⟩=some mp∧w.cell? ⟨b,1026,none⟩=some (.int .i64 (l.length:Nat))∧b<w.heap.size:=by
 obtain ⟨st,m,h⟩:=m
 exact ⟨m.aa,m.fz _,m.ss,m.fz _,m.ms,m.hh,m.lt⟩
theorem bf.place {B mb mp:Nat} {v:Option Addr} {w0 X:World} {m:Ms} {s:Nat} (h:bf B mb mp v w0 m s X) (a':Nat):bf B mb mp v w0 ⟨a',m.st,m.se⟩ s (X.setCell ⟨mb,1027,none⟩ (.int .i64 (a':Nat))):=h.ch2 (m':=⟨a',m.st,m.se⟩) (h.ma.place a') rfl (Ch.set _ _ _)
theorem bf.stepped {B mb mp:Nat} {v:Option Addr} {w0 X:World} {m:Ms} {s:Nat} (h:bf B mb mp v w0 m s X) (s':Nat):bf B mb mp v w0 m s' (X.setCell ⟨mb,1028,none⟩ (.int .i64 (s':Nat))):=h.ch2 (h.ma.stepped s') rfl (Ch.set _ _ _)
theorem GV (B mb mp:Nat) (v:Option Addr) (w0 X:World) (n:Int) (nm op:ByteArray) (p tg:Nat) (st:List Int) (a:Nat) (se:Asc) (s:Nat) (h:bf B mb mp v w0 ⟨a,st,se⟩ s X)  :
  Calls Tryz.prog 98 #[.pointer (some ⟨mb,0,none⟩),.agg #[.int .i64 6,.int .i64 n,.string nm,.string op,.int .i64 p,.int .i64 tg]] X fun e w'=>e= .returned .nilIface∧bf B mb mp v w0 ⟨tg,st,se⟩ s w':=by
 obtain ⟨cs,hcs⟩: ∃cs:Array Value,cs= #[.int .i64 6,.int .i64 n,.string nm,.string op,.int .i64 p,.int .i64 tg]:=⟨_,rfl⟩
 obtain ⟨W,hW⟩: ∃W,W=X.alloc (.cells cs 156):=⟨_,rfl⟩
 have fD:Hid (oq B mb mp X.heap.size v w0 cs ⟨a,st,se⟩ s W):=Lib.hid (by rw [hW];exact oq.first cs h)
 have dR:Hid (W=X.alloc (.cells #[.int .i64 6,.int .i64 n,.string nm,.string op,.int .i64 p,.int .i64 tg] 156)):=Lib.hid (by rw [hW,hcs])
 have pz:=Lib.hid hcs
 clear h hcs hW
 have hb1:=fD.out.blk
 rw [pz.out] at hb1
 obtain ⟨c0,c1,c2,c3,c4,c5,hz1⟩:=aH hb1
 clear hb1
 obtain ⟨d0,f0,_,_,_,_,hml⟩:=fD.out.run.ma.facts
 go_enter Tryz.func98,Tryz.ntmps98
 go_upto_region 1 with fail
 rw [←dR.out]
 go_wp2_with fail
 go_ret
 exact ⟨rfl,fD.out.run.place tg⟩
theorem GX (B mb mp:Nat) (v:Option Addr) (w0 X:World) (n:Int) (nm op:ByteArray) (p tg:Nat) (x:Int) (st:List Int) (a:Nat) (se:Asc) (s:Nat) (h:bf B mb mp v w0 ⟨a,x::st,se⟩ s X) (hx: ¬x=0) (hl:st.length<1024):
  Calls Tryz.prog 98 #[.pointer (some ⟨mb,0,none⟩),.agg #[.int .i64 5,.int .i64 n,.string nm,.string op,.int .i64 p,.int .i64 tg]] X fun e w'=>e= .returned .nilIface∧bf B mb mp v w0 ⟨a,st,se⟩ s w':=by
 obtain ⟨cs,hcs⟩: ∃cs:Array Value,cs= #[.int .i64 5,.int .i64 n,.string nm,.string op,.int .i64 p,.int .i64 tg]:=⟨_,rfl⟩
 obtain ⟨W,hW⟩: ∃W,W=X.alloc (.cells cs 156):=⟨_,rfl⟩
 have fD:Hid (oq B mb mp X.heap.size v w0 cs ⟨a,x::st,se⟩ s W):=Lib.hid (by rw [hW];exact oq.first cs h)
 have dR:Hid (W=X.alloc (.cells #[.int .i64 5,.int .i64 n,.string nm,.string op,.int .i64 p,.int .i64 tg] 156)):=Lib.hid (by rw [hW,hcs])
 have pz:=Lib.hid hcs
 clear h hcs hW
 have hb1:=fD.out.blk
 rw [pz.out] at hb1
 obtain ⟨c0,c1,c2,c3,c4,c5,hz1⟩:=aH hb1
 clear hb1
 have hx':decide (x=0)=false:=decide_eq_false hx
 go_enter Tryz.func98,Tryz.ntmps98
 go_upto_region 1 with fail
 rw [←dR.out]
 go_wp2_with fail
 refine (tC B mb mp v w0 a _ st se s W fD.out.run hl).mono ?_
 rintro e w1 ⟨rfl,hr1,hc1⟩
 have dZ:=Lib.hid (fD.out.ch hr1 hc1)
 clear hr1 hc1 c0 c1 c2 c3 c4 c5 hz1
 have hb1:=dZ.out.blk
 rw [pz.out] at hb1
 obtain ⟨c0,c1,c2,c3,c4,c5,hz1⟩:=aH hb1
 clear hb1
 obtain ⟨d0,f0,_,_,_,_,hml⟩:=dZ.out.run.ma.facts
 go_wp2_with fail
 go_ret
 exact ⟨rfl,dZ.out.run⟩
theorem Em (B mb mp:Nat) (v:Option Addr) (w0 X:World) (n:Int) (nm op:ByteArray) (p tg:Nat) (x:Int) (st:List Int) (a:Nat) (se:Asc) (s:Nat) (h:bf B mb mp v w0 ⟨a,x::st,se⟩ s X) (hx:x=0) (hl:st.length<1024):
  Calls Tryz.prog 98 #[.pointer (some ⟨mb,0,none⟩),.agg #[.int .i64 5,.int .i64 n,.string nm,.string op,.int .i64 p,.int .i64 tg]] X fun e w'=>e= .returned .nilIface∧bf B mb mp v w0 ⟨tg,st,se⟩ s w':=by
 obtain ⟨cs,hcs⟩: ∃cs:Array Value,cs= #[.int .i64 5,.int .i64 n,.string nm,.string op,.int .i64 p,.int .i64 tg]:=⟨_,rfl⟩
 obtain ⟨W,hW⟩: ∃W,W=X.alloc (.cells cs 156):=⟨_,rfl⟩
 have fD:Hid (oq B mb mp X.heap.size v w0 cs ⟨a,x::st,se⟩ s W):=Lib.hid (by rw [hW];exact oq.first cs h)
 have dR:Hid (W=X.alloc (.cells #[.int .i64 5,.int .i64 n,.string nm,.string op,.int .i64 p,.int .i64 tg] 156)):=Lib.hid (by rw [hW,hcs])
 have pz:=Lib.hid hcs
 clear h hcs hW
 have hb1:=fD.out.blk
 rw [pz.out] at hb1
 obtain ⟨c0,c1,c2,c3,c4,c5,hz1⟩:=aH hb1
 clear hb1
 subst hx
 go_enter Tryz.func98,Tryz.ntmps98
 go_upto_region 1 with fail
 rw [←dR.out]
 go_wp2_with fail
 refine (tC B mb mp v w0 a _ st se s W fD.out.run hl).mono ?_
 rintro e w1 ⟨rfl,hr1,hc1⟩
 have dZ:=Lib.hid (fD.out.ch hr1 hc1)
 clear hr1 hc1 c0 c1 c2 c3 c4 c5 hz1
 have hb1:=dZ.out.blk
 rw [pz.out] at hb1
 obtain ⟨c0,c1,c2,c3,c4,c5,hz1⟩:=aH hb1
 clear hb1
 obtain ⟨d0,f0,_,_,_,_,hml⟩:=dZ.out.run.ma.facts
 go_wp2_with fail
 go_ret
 exact ⟨rfl,dZ.out.run.place tg⟩
theorem oq.Um {B mb mp bx:Nat} {v:Option Addr} {w0:World} {a0 a1 a2 a3 a4 a5 y:Value} {m:Ms} {s:Nat} {Y:World} (h:oq B mb mp bx v w0 #[a0,a1,a2,a3,a4,a5] m s Y):oq B mb mp bx v w0 #[a0,y,a2,a3,a4,a5] m s (Y.setCell ⟨bx,1,none⟩ y):=by
 have hb: ∀k,k≠bx→(Y.setCell ⟨bx,1,none⟩ y).heap[k]? =Y.heap[k]? :=fun k hk=>Below.heap_setCell _ _ _ _ (by simpa using hk)
 refine ⟨⟨h.run.ma.same (hb mb fun e=>h.ne.1 e.symm),h.run.se.same (hb mp fun e=>h.ne.2.1 e.symm),h.run.ch.setCell (p:=⟨bx,1,none⟩) h.ne.2.2 _,h.run.lo⟩,?_,h.ne⟩
 show (Y.heap.modify bx _)[bx]? =_
 rw [Array.getElem?_modify,if_pos rfl,h.blk]
 rfl
theorem GU (B mb mp:Nat) (v:Option Addr) (w0 X:World) (n:Int) (nm op:ByteArray) (p tg:Nat) (st:List Int) (val:ByteArray→ByteArray) (NV:ByteArray→Int × Nat) (sn:Nat→Addr) (a:Nat) (se:Asc) (s:Nat) (h:bf B mb mp v w0 ⟨a,st,se⟩ s X) (hE:zl B v w0 val NV) (hl: ∀x,jZ NV nm p se= .ok x se→st.length<1024) (hn:nm.size≤maxLen) (hsn: ∀Y,Below B w0 Y→Er Y sn):
  Calls Tryz.prog 98 #[.pointer (some ⟨mb,0,none⟩),.agg #[.int .i64 1,.int .i64 n,.string nm,.string op,.int .i64 p,.int .i64 tg]] X fun e w'=>(∃x,jZ NV nm p se= .ok x se∧I64 x∧e= .returned .nilIface∧bf B mb mp v w0 ⟨a,x::st,se⟩ s w')∨(∃c pv,jZ NV nm p se= .bad c p∧e= .returned (.iface 89 pv)∧ErrAt w' sn c p (.iface 89 pv)∧Below B w0 w'∧w'.cell? ⟨mb,1028,none⟩=some (.int .i64 s)):=by
 obtain ⟨cs,hcs⟩: ∃cs:Array Value,cs= #[.int .i64 1,.int .i64 n,.string nm,.string op,.int .i64 p,.int .i64 tg]:=⟨_,rfl⟩
 obtain ⟨W,hW⟩: ∃W,W=X.alloc (.cells cs 156):=⟨_,rfl⟩
 have fD:Hid (oq B mb mp X.heap.size v w0 cs ⟨a,st,se⟩ s W):=Lib.hid (by rw [hW];exact oq.first cs h)
 have dR:Hid (W=X.alloc (.cells #[.int .i64 1,.int .i64 n,.string nm,.string op,.int .i64 p,.int .i64 tg] 156)):=Lib.hid (by rw [hW,hcs])
 have pz:=Lib.hid hcs
 clear h hcs hW
 have hb1:=fD.out.blk
 rw [pz.out] at hb1
 obtain ⟨c0,c1,c2,c3,c4,c5,hz1⟩:=aH hb1
 clear hb1
 have HNU:=Lib.hid (Ez B mb mp v w0 val NV ⟨a,st,se⟩ s W nm hE fD.out.run hn)
 have RI:=Lib.hid hsn
 clear hE hn hsn
 go_enter Tryz.func98,Tryz.ntmps98
 go_upto_region 1 with fail
 rw [←dR.out]
 go_wp2_with fail
 refine HNU.out.mono ?_
 rintro e w1 ⟨⟨x,c,rfl,hx,hc21,hld⟩,hb1⟩
 have dZ:=Lib.hid (fD.out.below hb1)
 have HX:=Lib.hid hx
 have Og:=Lib.hid hld
 clear hb1 hx hld c0 c1 c2 c3 c4 c5 hz1 HNU
 have hb1:=dZ.out.blk
 rw [pz.out] at hb1
 obtain ⟨c0,c1,c2,c3,c4,c5,hz1⟩:=aH hb1
 have f1:=Lib.frozen_of_heap hb1 1
 clear hb1
 by_cases hc:c=0
 ·subst hc
  go_upto_region 12 with fail
  go_upto_region 13 with fail
  have hS2:=oq.Um (y:= .int .i64 x) (by have:=dZ.out;rw [pz.out] at this;exact this)
  have HS2:=Lib.hid hS2
  clear hS2 c0 c1 c2 c3 c4 c5 hz1 f1
  obtain ⟨W2,hW2⟩: ∃W2,W2=w1.setCell ⟨X.heap.size,1,none⟩ (.int .i64 x):=⟨_,rfl⟩
  rw [←hW2] at HS2⊢
  clear hW2
  obtain ⟨c0,c1,c2,c3,c4,c5,hz1⟩:=aH HS2.out.blk
  go_wp2_with fail
  refine (Bo B mb mp v w0 _ s W2 x HS2.out.run (hl x (by have:=Og.out p;simpa using this))).mono ?_
  rintro e w3 ⟨rfl,hr1,hc1⟩
  have HR1:=Lib.hid hr1
  clear hr1 hc1
  go_wp2_with fail
  go_ret
  exact Or.inl ⟨x,by have:=Og.out p;simpa using this,HX.out,rfl,HR1.out⟩
 ·have hc':decide ((c:Int)=0)=false:=decide_eq_false (by omega)
  go_wp2_with fail
  refine (nK sn w1 (RI.out w1 dZ.out.run.ch) c p (by omega) hc21).mono ?_
  rintro e w2 ⟨⟨rfl,he⟩,hb2⟩
  have DC:=Lib.hid he
  have HB2:=Lib.hid (dZ.out.run.ch.trans (hb2.mono dZ.out.run.size))
  have Oe:=Lib.hid ((World.cell?_of_block (a:=⟨mb,1028,none⟩) (hb2.block mb dZ.out.run.ma.lt)).trans dZ.out.run.ma.facts.2.2.1)
  clear he hb2
  go_wp2_with fail
  go_ret
  exact Or.inr ⟨c,_,by have:=Og.out p;rwa [if_neg hc] at this,rfl,DC.out,HB2.out,Oe.out⟩
structure StoS (B mb mp bx:Nat) (v:Option Addr) (w0:World) (cs:Array Value) (m m':Ms) (s:Nat) (d:Bool) (Y:World):Prop where
 st:oq B mb mp bx v w0 cs (if d=true then m' else m) s Y
theorem iy.top {w:World} {b:Nat} {v mp:Value} {x:Int} {l:List Int} {a s:Nat} (m:iy w b v mp (x::l) a s) (hl:l.length<1024):w.cell? ⟨b,2+l.length,none⟩=some (.int .i64 x)∧w.cell? ⟨b,1026,none⟩=some (.int .i64 ((l.length:Int)+1)):=by
 obtain ⟨st,m,h⟩:=m
 have h1:=h l.length (by simp)
 rw [FD] at h1
 have h2:=m.sk l.length hl
 rw [h1] at h2
 exact ⟨h2,by have:=m.hh;simpa using this⟩
theorem Ej (B mb mp:Nat) (v:Option Addr) (w0 X:World) (n:Int) (nm op:ByteArray) (p tg:Nat) (x:Int) (st:List Int) (a:Nat) (se:Asc) (s:Nat) (h:bf B mb mp v w0 ⟨a,x::st,se⟩ s X) (hl:st.length<1024) (hx:I64 x) (hn:nm.size≤maxLen) (hse:se.length<1000000):
  Calls Tryz.prog 98 #[.pointer (some ⟨mb,0,none⟩),.agg #[.int .i64 2,.int .i64 n,.string nm,.string op,.int .i64 p,.int .i64 tg]] X fun e w'=>e= .returned .nilIface∧bf B mb mp v w0 ⟨a,x::st,(nm,x)::se⟩ s w':=by
 obtain ⟨cs,hcs⟩: ∃cs:Array Value,cs= #[.int .i64 2,.int .i64 n,.string nm,.string op,.int .i64 p,.int .i64 tg]:=⟨_,rfl⟩
 obtain ⟨W,hW⟩: ∃W,W=X.alloc (.cells cs 156):=⟨_,rfl⟩
 have fD:Hid (oq B mb mp X.heap.size v w0 cs ⟨a,x::st,se⟩ s W):=Lib.hid (by rw [hW];exact oq.first cs h)
 have dR:Hid (W=X.alloc (.cells #[.int .i64 2,.int .i64 n,.string nm,.string op,.int .i64 p,.int .i64 tg] 156)):=Lib.hid (by rw [hW,hcs])
 have pz:=Lib.hid hcs
 clear h hcs hW
 have hb1:=fD.out.blk
 rw [pz.out] at hb1
 obtain ⟨c0,c1,c2,c3,c4,c5,hz1⟩:=aH hb1
 clear hb1
 have HX:=Lib.hid hx
 have HN:=Lib.hid hn
 have HSE:=Lib.hid hse
 have hll:(st.length:Int)<1024:=by omega
 have hlm:(st.length:Int)+1 - 1=(st.length:Int):=by omega
 have hlw:IntKind.i64.wrap (st.length:Int)=(st.length:Int):=by
  have h0:(0:Int)≤st.length:=Int.natCast_nonneg _
  simp only [IntKind.wrap,IntKind.signed,IntKind.bits]
  simp
  omega
 clear hx hn hse
 go_enter Tryz.func98,Tryz.ntmps98
 go_upto_region 1 with fail
 rw [←dR.out]
 go_wp2_with fail
 refine Reg.aJ (fun L _ Y=>StoS B mb mp X.heap.size v w0 cs ⟨a,x::st,se⟩ ⟨a,x::st,(nm,x)::se⟩ s (L 16) Y) (fun j=>([some (.pointer (some ⟨mb,0,none⟩)),some (.pointer (some ⟨mb,0,none⟩)),some (.pointer (some ⟨mb,1,none⟩)),some (.map (some mp)),some (.pointer (some ⟨X.heap.size,2,none⟩)),some (.string nm),some (.pointer (some ⟨mb,0,none⟩)),some (.pointer (some ⟨mb,0,none⟩)),some (.pointer (some ⟨mb,0,none⟩)),some (.pointer (some ⟨mb,1026,none⟩)),some (.int .i64 ((st.length:Int)+1)),some (.int .i64 (st.length:Nat)),some (.pointer (some ⟨mb,0,none⟩)),some (.pointer (some ⟨mb,2,none⟩)),some (.pointer (some ⟨mb,2+st.length,none⟩)),some (.int .i64 x),none]:List (Option Value)).getD j none) (by kernel_rfl) (by kernel_rfl) (by kernel_rfl) (by kernel_rfl) ?iY ?rsE ?iW
 case iY=>exact ⟨fD.out.below (Below.refl _ _).drew⟩
 case rsE=>
  refine Reg.au.plain rfl (fun L u T Y hL hz hS hk K hK=>?_) ?_
  ·have g0:=hk.old 0 rfl
   have hK:=hK _ Y hS (fun _ hx=>Option.some.inj hx)
   clear hk hz hL
   go_simp
   exact hK
  refine Reg.au.plain rfl (fun L u T Y hL hz hS hk K hK=>?_) ?_
  ·have ZW:=hk.val 0 44 rfl
   have hd:L 16=false:=hz 16 (by kernel_rfl)
   have hs1:=hS.st
   rw [hd,if_neg (by decide)] at hs1
   obtain ⟨_,_,_,_,q1,_,hml⟩:=hs1.run.ma.facts
   obtain ⟨q2,q3⟩:=hs1.run.ma.top hl
   clear hs1
   have hK:=hK _ Y hS (fun _ hx=>Option.some.inj hx)
   clear hk hz hL
   go_simp
   exact hK
  refine Reg.au.plain rfl (fun L u T Y hL hz hS hk K hK=>?_) ?_
  ·have YE:=hk.val 1 45 rfl
   have hd:L 16=false:=hz 16 (by kernel_rfl)
   have hs1:=hS.st
   rw [hd,if_neg (by decide)] at hs1
   obtain ⟨_,_,_,_,q1,_,hml⟩:=hs1.run.ma.facts
   obtain ⟨q2,q3⟩:=hs1.run.ma.top hl
   clear hs1
   have hK:=hK _ Y hS (fun _ hx=>Option.some.inj hx)
   clear hk hz hL
   go_simp
   exact hK
  refine Reg.au.plain rfl (fun L u T Y hL hz hS hk K hK=>?_) ?_
  ·have g46:=hk.val 2 46 rfl
   have hd:L 16=false:=hz 16 (by kernel_rfl)
   have hs1:=hS.st
   rw [hd,if_neg (by decide)] at hs1
   obtain ⟨_,_,_,_,q1,_,hml⟩:=hs1.run.ma.facts
   obtain ⟨q2,q3⟩:=hs1.run.ma.top hl
   clear hs1
   have hK:=hK _ Y hS (fun _ hx=>Option.some.inj hx)
   clear hk hz hL
   go_simp
   exact hK
  refine Reg.au.plain rfl (fun L u T Y hL hz hS hk K hK=>?_) ?_
  ·have g3:=hk.old 3 rfl
   have hz1:=aV hS.st.blk
   have hK:=hK _ Y hS (fun _ hx=>Option.some.inj hx)
   clear hk hz hL
   go_simp
   exact hK
  refine Reg.au.plain rfl (fun L u T Y hL hz hS hk K hK=>?_) ?_
  ·have g48:=hk.val 4 48 rfl
   have hb1:=hS.st.blk
   rw [pz.out] at hb1
   obtain ⟨c0,c1,c2,c3,c4,c5,hz1⟩:=aH hb1
   clear hb1
   have hK:=hK _ Y hS (fun _ hx=>Option.some.inj hx)
   clear hk hz hL
   go_simp
   exact hK
  refine Reg.au.plain rfl (fun L u T Y hL hz hS hk K hK=>?_) ?_
  ·have g0:=hk.old 0 rfl
   have hK:=hK _ Y hS (fun _ hx=>Option.some.inj hx)
   clear hk hz hL
   go_simp
   exact hK
  refine Reg.au.plain rfl (fun L u T Y hL hz hS hk K hK=>?_) ?_
  ·have g0:=hk.old 0 rfl
   have hK:=hK _ Y hS (fun _ hx=>Option.some.inj hx)
   clear hk hz hL
   go_simp
   exact hK
  refine Reg.au.plain rfl (fun L u T Y hL hz hS hk K hK=>?_) ?_
  ·have g51:=hk.val 7 51 rfl
   have hd:L 16=false:=hz 16 (by kernel_rfl)
   have hs1:=hS.st
   rw [hd,if_neg (by decide)] at hs1
   obtain ⟨_,_,_,_,q1,_,hml⟩:=hs1.run.ma.facts
   obtain ⟨q2,q3⟩:=hs1.run.ma.top hl
   clear hs1
   have hK:=hK _ Y hS (fun _ hx=>Option.some.inj hx)
   clear hk hz hL
   go_simp
   exact hK
  refine Reg.au.plain rfl (fun L u T Y hL hz hS hk K hK=>?_) ?_
  ·have g52:=hk.val 8 52 rfl
   have hd:L 16=false:=hz 16 (by kernel_rfl)
   have hs1:=hS.st
   rw [hd,if_neg (by decide)] at hs1
   obtain ⟨_,_,_,_,q1,_,hml⟩:=hs1.run.ma.facts
   obtain ⟨q2,q3⟩:=hs1.run.ma.top hl
   clear hs1
   have hK:=hK _ Y hS (fun _ hx=>Option.some.inj hx)
   clear hk hz hL
   go_simp
   exact hK
  refine Reg.au.plain rfl (fun L u T Y hL hz hS hk K hK=>?_) ?_
  ·have g53:=hk.val 9 53 rfl
   have hd:L 16=false:=hz 16 (by kernel_rfl)
   have hs1:=hS.st
   rw [hd,if_neg (by decide)] at hs1
   obtain ⟨_,_,_,_,q1,_,hml⟩:=hs1.run.ma.facts
   obtain ⟨q2,q3⟩:=hs1.run.ma.top hl
   clear hs1
   have hK:=hK _ Y hS (fun _ hx=>Option.some.inj hx)
   clear hk hz hL
   go_simp
   exact hK
  refine Reg.au.plain rfl (fun L u T Y hL hz hS hk K hK=>?_) ?_
  ·have g54:=hk.val 10 54 rfl
   have hK:=hK _ Y hS (fun _ hx=>Option.some.inj hx)
   clear hk hz hL
   go_simp
   exact hK
  refine Reg.au.plain rfl (fun L u T Y hL hz hS hk K hK=>?_) ?_
  ·have g50:=hk.val 6 50 rfl
   have hd:L 16=false:=hz 16 (by kernel_rfl)
   have hs1:=hS.st
   rw [hd,if_neg (by decide)] at hs1
   obtain ⟨_,_,_,_,q1,_,hml⟩:=hs1.run.ma.facts
   obtain ⟨q2,q3⟩:=hs1.run.ma.top hl
   clear hs1
   have hK:=hK _ Y hS (fun _ hx=>Option.some.inj hx)
   clear hk hz hL
   go_simp
   exact hK
  refine Reg.au.plain rfl (fun L u T Y hL hz hS hk K hK=>?_) ?_
  ·have g56:=hk.val 12 56 rfl
   have hd:L 16=false:=hz 16 (by kernel_rfl)
   have hs1:=hS.st
   rw [hd,if_neg (by decide)] at hs1
   obtain ⟨_,_,_,_,q1,_,hml⟩:=hs1.run.ma.facts
   obtain ⟨q2,q3⟩:=hs1.run.ma.top hl
   clear hs1
   have hK:=hK _ Y hS (fun _ hx=>Option.some.inj hx)
   clear hk hz hL
   go_simp
   exact hK
  refine Reg.au.plain rfl (fun L u T Y hL hz hS hk K hK=>?_) ?_
  ·have g55:=hk.val 11 55 rfl
   have g57:=hk.val 13 57 rfl
   have hd:L 16=false:=hz 16 (by kernel_rfl)
   have hs1:=hS.st
   rw [hd,if_neg (by decide)] at hs1
   obtain ⟨_,_,_,_,q1,_,hml⟩:=hs1.run.ma.facts
   obtain ⟨q2,q3⟩:=hs1.run.ma.top hl
   clear hs1
   have hK:=hK _ Y hS (fun _ hx=>Option.some.inj hx)
   clear hk hz hL
   go_simp
   exact hK
  refine Reg.au.plain rfl (fun L u T Y hL hz hS hk K hK=>?_) ?_
  ·have g58:=hk.val 14 58 rfl
   have hd:L 16=false:=hz 16 (by kernel_rfl)
   have hs1:=hS.st
   rw [hd,if_neg (by decide)] at hs1
   obtain ⟨_,_,_,_,q1,_,hml⟩:=hs1.run.ma.facts
   obtain ⟨q2,q3⟩:=hs1.run.ma.top hl
   clear hs1
   have hK:=hK _ Y hS (fun _ hx=>Option.some.inj hx)
   clear hk hz hL
   go_simp
   exact hK
  refine Reg.au.plain rfl (fun L u T Y hL hz hS hk K hK=>?_) ?_
  ·have g47:=hk.val 3 47 rfl
   have g49:=hk.val 5 49 rfl
   have g59:=hk.val 15 59 rfl
   have hs1:=hS.st
   rw [hL,if_neg (by decide)] at hs1
   obtain ⟨D,hown,hrep⟩:=hs1.run.se
   refine ug Y (.tmp 47) (.tmp 49) (.tmp 59) 118 rfl 9 2 rM Tryz.underlying118 (plainElem (H:=Unit) Tryz.prog 2) mp se.length D (by simp [Act.eval,g47]) hown (by have:=HSE.out;unfold maxLen;omega) (.string nm) (.int .i64 x) (KL nm) (by simp [Act.eval,g49]) (by simp [Act.eval,g59]) (KL.key HN.out) _ [] (plainElem_int Tryz.underlying2 HX.out.wf) ?_
   intro w' hown' hgr
   refine hK undef w' ⟨?_⟩ (fun _ hx=>by cases hx)
   rw [Reg.upd_same,if_pos rfl]
   exact ⟨⟨hs1.run.ma.same (hgr.block mb hs1.run.ma.lt (fun e=>hs1.run.lo.2.2 (Option.some.inj e))),⟨_,hown',hrep.put hown.isMap nm x⟩,hs1.run.ch.grown hgr hs1.run.size (fun k hk=>by rw [←Option.some.inj hk];exact hs1.run.lo.2.1),hs1.run.lo⟩,nI hs1.blk hgr (fun e=>hs1.ne.2.1 (Option.some.inj e).symm),hs1.ne⟩
  exact Reg.au.nil
 case iW=>
  intro L u w1 hL hS hI
  have e0:=hI 0 (by decide) _ rfl
  have e1:=hI 1 (by decide) _ rfl
  have e2:=hI 2 (by decide) _ rfl
  have e3:=hI 3 (by decide) _ rfl
  have e4:=hI 4 (by decide) _ rfl
  have e5:=hI 5 (by decide) _ rfl
  have e6:=hI 6 (by decide) _ rfl
  have e7:=hI 7 (by decide) _ rfl
  have e8:=hI 8 (by decide) _ rfl
  have e9:=hI 9 (by decide) _ rfl
  have e10:=hI 10 (by decide) _ rfl
  have e11:=hI 11 (by decide) _ rfl
  have e12:=hI 12 (by decide) _ rfl
  have e13:=hI 13 (by decide) _ rfl
  have e14:=hI 14 (by decide) _ rfl
  have e15:=hI 15 (by decide) _ rfl
  clear hI
  simp only [Reg.aK,Act.put,List.setIfInBounds_toArray,List.set_cons_succ,List.set_cons_zero,Nat.zero_add,Nat.reduceAdd,e0,e1,e2,e3,e4,e5,e6,e7,e8,e9,e10,e11,e12,e13,e14,e15]
  clear e0 e1 e2 e3 e4 e5 e6 e7 e8 e9 e10 e11 e12 e13 e14 e15
  have h16:=hL 16 (by decide)
  have hs1:=hS.st
  rw [h16,if_pos rfl] at hs1
  have dZ:=Lib.hid hs1
  clear hS hs1 h16 hL u L
  go_wp2_with fail
  go_ret
  exact ⟨rfl,dZ.out.run⟩
structure OneS (B mb mp bx:Nat) (v:Option Addr) (w0:World) (cs:Array Value) (a:Nat) (x y:Int) (st:List Int) (se:Asc) (s:Nat) (d4 d5 d6:Bool) (u4 u5:Value) (Y:World):Prop where
 st:oq B mb mp bx v w0 cs (if d6=true then ⟨a,y::st,se⟩ else if d4=true then ⟨a,st,se⟩ else ⟨a,x::st,se⟩) s Y
 v4:d4=true→u4= .int .i64 x
 v5:d5=true→u5= .int .i64 y∧d4=true
theorem KN (B mb mp:Nat) (v:Option Addr) (w0 X:World) (n:Int) (nm op:ByteArray) (p tg:Nat) (x y:Int) (st:List Int) (a:Nat) (se:Asc) (s:Nat) (h:bf B mb mp v w0 ⟨a,x::st,se⟩ s X) (hl:st.length<1024) (hy:kK op 0 x=some y):
  Calls Tryz.prog 98 #[.pointer (some ⟨mb,0,none⟩),.agg #[.int .i64 3,.int .i64 n,.string nm,.string op,.int .i64 p,.int .i64 tg]] X fun e w'=>e= .returned .nilIface∧bf B mb mp v w0 ⟨a,y::st,se⟩ s w':=by
 obtain ⟨cs,hcs⟩: ∃cs:Array Value,cs= #[.int .i64 3,.int .i64 n,.string nm,.string op,.int .i64 p,.int .i64 tg]:=⟨_,rfl⟩
 obtain ⟨W,hW⟩: ∃W,W=X.alloc (.cells cs 156):=⟨_,rfl⟩
 have fD:Hid (oq B mb mp X.heap.size v w0 cs ⟨a,x::st,se⟩ s W):=Lib.hid (by rw [hW];exact oq.first cs h)
 have dR:Hid (W=X.alloc (.cells #[.int .i64 3,.int .i64 n,.string nm,.string op,.int .i64 p,.int .i64 tg] 156)):=Lib.hid (by rw [hW,hcs])
 have pz:=Lib.hid hcs
 clear h hcs hW
 have hb1:=fD.out.blk
 rw [pz.out] at hb1
 obtain ⟨c0,c1,c2,c3,c4,c5,hz1⟩:=aH hb1
 clear hb1
 have Gj:Hid (∀Y,Calls Tryz.prog 138 #[.string op,.int .i64 0,.int .i64 x] Y fun e w'=>e= .returned (.int .i64 y)∧Y=w'):=Lib.hid (fun Y=>zK op 0 x y hy Y)
 clear hy
 go_enter Tryz.func98,Tryz.ntmps98
 go_upto_region 1 with fail
 rw [←dR.out]
 go_wp2_with fail
 refine Reg.aJ (fun L u Y=>OneS B mb mp X.heap.size v w0 cs a x y st se s (L 4) (L 5) (L 6) (u 4) (u 5) Y) (fun j=>([some (.pointer (some ⟨mb,0,none⟩)),some (.pointer (some ⟨X.heap.size,3,none⟩)),some (.string op),some (.pointer (some ⟨mb,0,none⟩)),none,none,some (.tuple #[])]:List (Option Value)).getD j none) (by kernel_rfl) (by kernel_rfl) (by kernel_rfl) (by kernel_rfl) ?iY ?rsE ?iW
 case iY=>exact ⟨fD.out.below (Below.refl _ _).drew,fun h=>(by cases h),fun h=>(by cases h)⟩
 case rsE=>
  refine Reg.au.plain rfl (fun L u T Y hL hz hS hk K hK=>?_) ?_
  ·have g0:=hk.old 0 rfl
   have hK:=hK _ Y ⟨hS.st,hS.v4,hS.v5⟩ (fun _ hx=>Option.some.inj hx)
   clear hk hz hL
   go_simp
   exact hK
  refine Reg.au.plain rfl (fun L u T Y hL hz hS hk K hK=>?_) ?_
  ·have g3:=hk.old 3 rfl
   have hz1:=aV hS.st.blk
   have hK:=hK _ Y ⟨hS.st,hS.v4,hS.v5⟩ (fun _ hx=>Option.some.inj hx)
   clear hk hz hL
   go_simp
   exact hK
  refine Reg.au.plain rfl (fun L u T Y hL hz hS hk K hK=>?_) ?_
  ·have g61:=hk.val 1 61 rfl
   have hb1:=hS.st.blk
   rw [pz.out] at hb1
   obtain ⟨c0,c1,c2,c3,c4,c5,hz1⟩:=aH hb1
   clear hb1
   have hK:=hK _ Y ⟨hS.st,hS.v4,hS.v5⟩ (fun _ hx=>Option.some.inj hx)
   clear hk hz hL
   go_simp
   exact hK
  refine Reg.au.plain rfl (fun L u T Y hL hz hS hk K hK=>?_) ?_
  ·have g0:=hk.old 0 rfl
   have hK:=hK _ Y ⟨hS.st,hS.v4,hS.v5⟩ (fun _ hx=>Option.some.inj hx)
   clear hk hz hL
   go_simp
   exact hK
  refine Reg.au.plain rfl (fun L u T Y hL hz hS hk K hK=>?_) ?_
  ·have g63:=hk.val 3 63 rfl
   have h5:L 5=false:=hz 5 (by kernel_rfl)
   have h6:L 6=false:=hz 6 (by kernel_rfl)
   have hs1:=hS.st
   rw [h6,hL,if_neg (by decide),if_neg (by decide)] at hs1
   have hC:=tC B mb mp v w0 a x st se s Y hs1.run hl
   clear hk hz
   go_simp
   refine hC.mono ?_
   rintro e w' ⟨rfl,hr,hc⟩
   refine hK _ w' ⟨?_,fun _=>by rw [Reg.upd_same],fun h=>(by rw [Reg.upd_ne _ _ (by decide),h5] at h;cases h)⟩ (fun _ hx=>by cases hx)
   rw [Reg.upd_ne _ _ (by decide),h6,Reg.upd_same,if_neg (by decide),if_pos rfl]
   exact hs1.ch hr hc
  refine Reg.au.plain rfl (fun L u T Y hL hz hS hk K hK=>?_) ?_
  ·have g62:=hk.val 2 62 rfl
   obtain ⟨g64,l64⟩:=hk.any 4 64
   rw [hS.v4 l64] at g64
   have hC:=Gj.out Y
   have h4:=l64
   clear hk hz
   go_simp
   refine hC.mono ?_
   rintro e w' ⟨rfl,rfl⟩
   exact hK _ Y ⟨by rw [Reg.upd_ne _ _ (by decide),Reg.upd_ne _ _ (by decide)];exact hS.st,fun h=>(by rw [Reg.upd_ne _ _ (by decide)];exact hS.v4 (by rwa [Reg.upd_ne _ _ (by decide)] at h)),fun _=>⟨by rw [Reg.upd_same],by rw [Reg.upd_ne _ _ (by decide)];exact h4⟩⟩ (fun _ hx=>by cases hx)
  refine Reg.au.plain rfl (fun L u T Y hL hz hS hk K hK=>?_) ?_
  ·have g60:=hk.val 0 60 rfl
   obtain ⟨ZV,l65⟩:=hk.any 5 65
   obtain ⟨e5,h4⟩:=hS.v5 l65
   rw [e5] at ZV
   have hs1:=hS.st
   rw [hL,h4,if_neg (by decide),if_pos rfl] at hs1
   have hC:=Bo B mb mp v w0 ⟨a,st,se⟩ s Y y hs1.run hl
   clear hk hz
   go_simp
   refine hC.mono ?_
   rintro e w' ⟨rfl,hr,hc⟩
   refine hK _ w' ⟨?_,fun h=>(by rw [Reg.upd_ne _ _ (by decide)] at h⊢;exact hS.v4 h),fun h=>(by rw [Reg.upd_ne _ _ (by decide)] at h⊢;exact ⟨(hS.v5 h).1,by rw [Reg.upd_ne _ _ (by decide)];exact (hS.v5 h).2⟩)⟩ (fun _ hx=>Option.some.inj hx)
   rw [Reg.upd_same,if_pos rfl]
   exact hs1.ch hr hc
  exact Reg.au.nil
 case iW=>
  intro L u w1 hL hS hI
  have e0:=hI 0 (by decide) _ rfl
  have e1:=hI 1 (by decide) _ rfl
  have e2:=hI 2 (by decide) _ rfl
  have e3:=hI 3 (by decide) _ rfl
  have e6:=hI 6 (by decide) _ rfl
  clear hI
  simp only [Reg.aK,Act.put,List.setIfInBounds_toArray,List.set_cons_succ,List.set_cons_zero,Nat.zero_add,Nat.reduceAdd,e0,e1,e2,e3,e6]
  clear e0 e1 e2 e3 e6
  have h6:=hL 6 (by decide)
  have hs1:=hS.st
  rw [h6,if_pos rfl] at hs1
  have dZ:=Lib.hid hs1
  generalize u 4=y4 at*
  generalize u 5=y5 at*
  clear hS hs1 h6 hL u L
  go_wp2_with fail
  go_ret
  exact ⟨rfl,dZ.out.run⟩
theorem GL (B mb mp:Nat) (v:Option Addr) (w0 X:World) (n:Int) (nm op:ByteArray) (p tg:Nat) (x r y:Int) (st:List Int) (a:Nat) (se:Asc) (s:Nat) (h:bf B mb mp v w0 ⟨a,r::x::st,se⟩ s X) (hl:(x::st).length<1024) (hy:kK op x r=some y) (hn0: ¬op=⟨#[47]⟩) (hn1: ¬op=⟨#[37]⟩) (hr0:r=0):
  Calls Tryz.prog 98 #[.pointer (some ⟨mb,0,none⟩),.agg #[.int .i64 4,.int .i64 n,.string nm,.string op,.int .i64 p,.int .i64 tg]] X fun e w'=>e= .returned .nilIface∧bf B mb mp v w0 ⟨a,y::st,se⟩ s w':=by
 obtain ⟨cs,hcs⟩: ∃cs:Array Value,cs= #[.int .i64 4,.int .i64 n,.string nm,.string op,.int .i64 p,.int .i64 tg]:=⟨_,rfl⟩
 obtain ⟨W,hW⟩: ∃W,W=X.alloc (.cells cs 156):=⟨_,rfl⟩
 have fD:Hid (oq B mb mp X.heap.size v w0 cs ⟨a,r::x::st,se⟩ s W):=Lib.hid (by rw [hW];exact oq.first cs h)
 have dR:Hid (W=X.alloc (.cells #[.int .i64 4,.int .i64 n,.string nm,.string op,.int .i64 p,.int .i64 tg] 156)):=Lib.hid (by rw [hW,hcs])
 have pz:=Lib.hid hcs
 clear h hcs hW
 have hb1:=fD.out.blk
 rw [pz.out] at hb1
 obtain ⟨c0,c1,c2,c3,c4,c5,hz1⟩:=aH hb1
 clear hb1
 have Gj:Hid (∀Y,Calls Tryz.prog 138 #[.string op,.int .i64 x,.int .i64 r] Y fun e w'=>e= .returned (.int .i64 y)∧Y=w'):=Lib.hid (fun Y=>zK op x r y hy Y)
 clear hy
 have t0:=aX hn0
 have t1:=aX hn1
 clear hn0 hn1
 subst hr0
 go_enter Tryz.func98,Tryz.ntmps98
 go_upto_region 1 with fail
 rw [←dR.out]
 go_wp2_with fail
 refine (tC B mb mp v w0 a _ (x::st) se s W fD.out.run hl).mono ?_
 rintro e w1 ⟨rfl,hr1,hc1⟩
 have dZ:=Lib.hid (fD.out.ch hr1 hc1)
 clear hr1 hc1 c0 c1 c2 c3 c4 c5 hz1
 go_wp2_with fail
 refine (tC B mb mp v w0 a x st se s w1 dZ.out.run (by simp only [List.length_cons] at hl;omega)).mono ?_
 rintro e w2 ⟨rfl,hr1,hc1⟩
 have HS2:=Lib.hid (dZ.out.ch hr1 hc1)
 clear hr1 hc1
 have hb1:=HS2.out.blk
 rw [pz.out] at hb1
 obtain ⟨c0,c1,c2,c3,c4,c5,hz1⟩:=aH hb1
 clear hb1
 go_wp2_with fail
 refine (Gj.out w2).mono ?_
 rintro e w3 ⟨rfl,rfl⟩
 go_wp2_with fail
 refine (Bo B mb mp v w0 ⟨a,st,se⟩ s w2 y HS2.out.run (by simp only [List.length_cons] at hl;show st.length<1024;omega)).mono ?_
 rintro e w3 ⟨rfl,hr1,hc1⟩
 have HR1:=Lib.hid hr1
 clear hr1 hc1
 go_wp2_with fail
 go_ret
 exact ⟨rfl,HR1.out⟩
theorem GK (B mb mp:Nat) (v:Option Addr) (w0 X:World) (n:Int) (nm op:ByteArray) (p tg:Nat) (x r y:Int) (st:List Int) (a:Nat) (se:Asc) (s:Nat) (h:bf B mb mp v w0 ⟨a,r::x::st,se⟩ s X) (hl:(x::st).length<1024) (hy:kK op x r=some y) (hr0: ¬r=0):
  Calls Tryz.prog 98 #[.pointer (some ⟨mb,0,none⟩),.agg #[.int .i64 4,.int .i64 n,.string nm,.string op,.int .i64 p,.int .i64 tg]] X fun e w'=>e= .returned .nilIface∧bf B mb mp v w0 ⟨a,y::st,se⟩ s w':=by
 obtain ⟨cs,hcs⟩: ∃cs:Array Value,cs= #[.int .i64 4,.int .i64 n,.string nm,.string op,.int .i64 p,.int .i64 tg]:=⟨_,rfl⟩
 obtain ⟨W,hW⟩: ∃W,W=X.alloc (.cells cs 156):=⟨_,rfl⟩
 have fD:Hid (oq B mb mp X.heap.size v w0 cs ⟨a,r::x::st,se⟩ s W):=Lib.hid (by rw [hW];exact oq.first cs h)
 have dR:Hid (W=X.alloc (.cells #[.int .i64 4,.int .i64 n,.string nm,.string op,.int .i64 p,.int .i64 tg] 156)):=Lib.hid (by rw [hW,hcs])
 have pz:=Lib.hid hcs
 clear h hcs hW
 have hb1:=fD.out.blk
 rw [pz.out] at hb1
 obtain ⟨c0,c1,c2,c3,c4,c5,hz1⟩:=aH hb1
 clear hb1
 have Gj:Hid (∀Y,Calls Tryz.prog 138 #[.string op,.int .i64 x,.int .i64 r] Y fun e w'=>e= .returned (.int .i64 y)∧Y=w'):=Lib.hid (fun Y=>zK op x r y hy Y)
 clear hy
 have hr1:decide (r=0)=false:=decide_eq_false hr0
 go_enter Tryz.func98,Tryz.ntmps98
 go_upto_region 1 with fail
 rw [←dR.out]
 go_wp2_with fail
 refine (tC B mb mp v w0 a r (x::st) se s W fD.out.run hl).mono ?_
 rintro e w1 ⟨rfl,hr1,hc1⟩
 have dZ:=Lib.hid (fD.out.ch hr1 hc1)
 clear hr1 hc1 c0 c1 c2 c3 c4 c5 hz1
 go_wp2_with fail
 refine (tC B mb mp v w0 a x st se s w1 dZ.out.run (by simp only [List.length_cons] at hl;omega)).mono ?_
 rintro e w2 ⟨rfl,hr1,hc1⟩
 have HS2:=Lib.hid (dZ.out.ch hr1 hc1)
 clear hr1 hc1
 have hb1:=HS2.out.blk
 rw [pz.out] at hb1
 obtain ⟨c0,c1,c2,c3,c4,c5,hz1⟩:=aH hb1
 clear hb1
 go_wp2_with fail
 refine (Gj.out w2).mono ?_
 rintro e w3 ⟨rfl,rfl⟩
 go_wp2_with fail
 refine (Bo B mb mp v w0 ⟨a,st,se⟩ s w2 y HS2.out.run (by simp only [List.length_cons] at hl;show st.length<1024;omega)).mono ?_
 rintro e w3 ⟨rfl,hr1,hc1⟩
 have HR1:=Lib.hid hr1
 clear hr1 hc1
 go_wp2_with fail
 go_ret
 exact ⟨rfl,HR1.out⟩
theorem GY (B mb mp:Nat) (v:Option Addr) (w0 X:World) (n:Int) (nm op:ByteArray) (p tg:Nat) (x:Int) (st:List Int) (sn:Nat→Addr) (a:Nat) (se:Asc) (s:Nat) (h:bf B mb mp v w0 ⟨a,0::x::st,se⟩ s X) (hl:(x::st).length<1024) (hsn: ∀Y,Below B w0 Y→Er Y sn) (hop:op=⟨#[47]⟩):
  Calls Tryz.prog 98 #[.pointer (some ⟨mb,0,none⟩),.agg #[.int .i64 4,.int .i64 n,.string nm,.string op,.int .i64 p,.int .i64 tg]] X fun e w'=> ∃pv,e= .returned (.iface 89 pv)∧ErrAt w' sn 12 p (.iface 89 pv)∧Below B w0 w'∧w'.cell? ⟨mb,1028,none⟩=some (.int .i64 s):=by
 obtain ⟨cs,hcs⟩: ∃cs:Array Value,cs= #[.int .i64 4,.int .i64 n,.string nm,.string op,.int .i64 p,.int .i64 tg]:=⟨_,rfl⟩
 obtain ⟨W,hW⟩: ∃W,W=X.alloc (.cells cs 156):=⟨_,rfl⟩
 have fD:Hid (oq B mb mp X.heap.size v w0 cs ⟨a,0::x::st,se⟩ s W):=Lib.hid (by rw [hW];exact oq.first cs h)
 have dR:Hid (W=X.alloc (.cells #[.int .i64 4,.int .i64 n,.string nm,.string op,.int .i64 p,.int .i64 tg] 156)):=Lib.hid (by rw [hW,hcs])
 have pz:=Lib.hid hcs
 clear h hcs hW
 have hb1:=fD.out.blk
 rw [pz.out] at hb1
 obtain ⟨c0,c1,c2,c3,c4,c5,hz1⟩:=aH hb1
 clear hb1
 subst hop
 have RI:=Lib.hid hsn
 clear hsn
 go_enter Tryz.func98,Tryz.ntmps98
 go_upto_region 1 with fail
 rw [←dR.out]
 go_wp2_with fail
 refine (tC B mb mp v w0 a 0 (x::st) se s W fD.out.run hl).mono ?_
 rintro e w1 ⟨rfl,hr1,hc1⟩
 have dZ:=Lib.hid (fD.out.ch hr1 hc1)
 clear hr1 hc1 c0 c1 c2 c3 c4 c5 hz1
 go_wp2_with fail
 refine (tC B mb mp v w0 a x st se s w1 dZ.out.run (by simp only [List.length_cons] at hl;omega)).mono ?_
 rintro e w2 ⟨rfl,hr1,hc1⟩
 have HS2:=Lib.hid (dZ.out.ch hr1 hc1)
 clear hr1 hc1
 have hb1:=HS2.out.blk
 rw [pz.out] at hb1
 obtain ⟨c0,c1,c2,c3,c4,c5,hz1⟩:=aH hb1
 clear hb1
 go_wp2_with fail
 refine (nK sn w2 (RI.out w2 HS2.out.run.ch) 12 p (by omega) (by omega)).mono ?_
 rintro e w3 ⟨⟨rfl,he⟩,hb2⟩
 have DC:=Lib.hid he
 have HB2:=Lib.hid (HS2.out.run.ch.trans (hb2.mono HS2.out.run.size))
 have Oe:=Lib.hid ((World.cell?_of_block (a:=⟨mb,1028,none⟩) (hb2.block mb HS2.out.run.ma.lt)).trans HS2.out.run.ma.facts.2.2.1)
 clear he hb2
 go_wp2_with fail
 go_ret
 exact ⟨_,rfl,DC.out,HB2.out,Oe.out⟩
theorem GR (B mb mp:Nat) (v:Option Addr) (w0 X:World) (n:Int) (nm op:ByteArray) (p tg:Nat) (x:Int) (st:List Int) (sn:Nat→Addr) (a:Nat) (se:Asc) (s:Nat) (h:bf B mb mp v w0 ⟨a,0::x::st,se⟩ s X) (hl:(x::st).length<1024) (hsn: ∀Y,Below B w0 Y→Er Y sn) (hop:op=⟨#[37]⟩):
  Calls Tryz.prog 98 #[.pointer (some ⟨mb,0,none⟩),.agg #[.int .i64 4,.int .i64 n,.string nm,.string op,.int .i64 p,.int .i64 tg]] X fun e w'=> ∃pv,e= .returned (.iface 89 pv)∧ErrAt w' sn 12 p (.iface 89 pv)∧Below B w0 w'∧w'.cell? ⟨mb,1028,none⟩=some (.int .i64 s):=by
 obtain ⟨cs,hcs⟩: ∃cs:Array Value,cs= #[.int .i64 4,.int .i64 n,.string nm,.string op,.int .i64 p,.int .i64 tg]:=⟨_,rfl⟩
 obtain ⟨W,hW⟩: ∃W,W=X.alloc (.cells cs 156):=⟨_,rfl⟩
 have fD:Hid (oq B mb mp X.heap.size v w0 cs ⟨a,0::x::st,se⟩ s W):=Lib.hid (by rw [hW];exact oq.first cs h)
 have dR:Hid (W=X.alloc (.cells #[.int .i64 4,.int .i64 n,.string nm,.string op,.int .i64 p,.int .i64 tg] 156)):=Lib.hid (by rw [hW,hcs])
 have pz:=Lib.hid hcs
 clear h hcs hW
 have hb1:=fD.out.blk
 rw [pz.out] at hb1
 obtain ⟨c0,c1,c2,c3,c4,c5,hz1⟩:=aH hb1
 clear hb1
 subst hop
 have RI:=Lib.hid hsn
 clear hsn
 go_enter Tryz.func98,Tryz.ntmps98
 go_upto_region 1 with fail
 rw [←dR.out]
 go_wp2_with fail
 refine (tC B mb mp v w0 a 0 (x::st) se s W fD.out.run hl).mono ?_
 rintro e w1 ⟨rfl,hr1,hc1⟩
 have dZ:=Lib.hid (fD.out.ch hr1 hc1)
 clear hr1 hc1 c0 c1 c2 c3 c4 c5 hz1
 go_wp2_with fail
 refine (tC B mb mp v w0 a x st se s w1 dZ.out.run (by simp only [List.length_cons] at hl;omega)).mono ?_
 rintro e w2 ⟨rfl,hr1,hc1⟩
 have HS2:=Lib.hid (dZ.out.ch hr1 hc1)
 clear hr1 hc1
 have hb1:=HS2.out.blk
 rw [pz.out] at hb1
 obtain ⟨c0,c1,c2,c3,c4,c5,hz1⟩:=aH hb1
 clear hb1
 go_wp2_with fail
 refine (nK sn w2 (RI.out w2 HS2.out.run.ch) 12 p (by omega) (by omega)).mono ?_
 rintro e w3 ⟨⟨rfl,he⟩,hb2⟩
 have DC:=Lib.hid he
 have HB2:=Lib.hid (HS2.out.run.ch.trans (hb2.mono HS2.out.run.size))
 have Oe:=Lib.hid ((World.cell?_of_block (a:=⟨mb,1028,none⟩) (hb2.block mb HS2.out.run.ma.lt)).trans HS2.out.run.ma.facts.2.2.1)
 clear he hb2
 go_wp2_with fail
 go_ret
 exact ⟨_,rfl,DC.out,HB2.out,Oe.out⟩
end Go.Proofs.YtacfglopionkfaaGreatDoor
