import Derived.Test.YtacfglopionkfaaGreatDoorKMm
import Derived.Test.YtacfglopionkfaaGreatDoorKCl
namespace Go.Proofs.YtacfglopionkfaaGreatDoor
set_option maxHeartbeats 8000000
set_option maxRecDepth 100000
open Go.RowKit
structure CpS (B gb k0:Nat) (W:World) (v:Value) (n:Nat) (xs:List Value) (cs:List Value) (d6 d7 d10:Bool) (u6 u7:Value) (X:World):Prop where
 ch:dS B W X
 box:X.heap[k0]? =some (.cells cs.toArray 156 (0,0))
 pat:d10=false→X.heap[gb]? =some (.cells #[v] 154 (0,0))
 row:d7=false→X.ownsRow B 156 6 v n xs
 lit:d6=true→d7=false→ ∃g,u6= .slice (some ⟨g,0,none⟩) 1 1∧X.heap[g]? =some (.cells cs.toArray 156 (0,0))
 new:d7=true→X.ownsRow B 156 6 u7 (n+1) (xs++cs)
 pat':d10=true→X.heap[gb]? =some (.cells #[u7] 154 (0,0))
theorem gB (B gb:Nat) (l:List Ins) (i:Ins) (w:World) (h:aY B gb l w) (hBw:B≤w.heap.size) (hlen:l.length≤1099511627776):
  Calls Tryz.prog 124 #[.pointer (some ⟨gb,0,none⟩),.agg i.cells.toArray] w fun x w'=>x= .returned (.int .i64 (l.length:Nat))∧aY B gb (l++[i]) w'∧dS B w w':=by
 obtain ⟨hB,v,hpb,hrow⟩:=h
 have hcs:i.cells=[.int .i64 i.k,.int .i64 i.n,.string i.nm,.string i.op,.int .i64 i.p,.int .i64 i.tg]:=rfl
 have HR:Hid (jL (l++[i])=jL l++i.cells):=Lib.hid (yQ l i)
 have HONE:=Lib.hid i.one
 have HL7:=Lib.hid i.aT
 generalize i.cells=cs at*
 obtain ⟨i0,z0,hi,hz0,hz1,hz2,hz3⟩:=Ih
 have hlt:gb<w.heap.size:=aV hpb
 obtain ⟨W,hW⟩: ∃W,W=w.alloc (.cells cs.toArray 156):=⟨_,rfl⟩
 have hsz:W.heap.size=w.heap.size+1:=by rw [hW];simp
 have HCW:Hid (dS B w W):=Lib.hid (by rw [hW];exact (dS.refl B w).alloc hBw _)
 have Xb:Hid (W.heap[w.heap.size]? =some (.cells cs.toArray 156 (0,0))):=Lib.hid (by rw [hW];exact dN w _)
 have HPB:Hid (W.heap[gb]? =some (.cells #[v] 154 (0,0))):=Lib.hid (by rw [hW];exact fO hpb _)
 have HRW:Hid (W.ownsRow B 156 6 v l.length (jL l)):=Lib.hid (by rw [hW];exact hrow.alloc _)
 have WY:Hid (v.ownBlock≠some w.heap.size):=Lib.hid (fun e=>by have:=(hrow.lt _ e).2;omega)
 rw [hcs] at hW
 have dR:=Lib.hid hW
 have pz:=Lib.hid hcs
 rw [hcs]
 clear hrow hpb hW hcs
 go_enter Tryz.func124,Tryz.ntmps124
 go_wp2_with fail
 rw [←dR.out]
 refine Reg.aJ (fun L u' X=>CpS B gb w.heap.size W v l.length (jL l) cs (L 6) (L 7) (L 10) (u' 6) (u' 7) X) (fun j=>([some (.pointer (some ⟨gb,0,none⟩)),some (.pointer (some ⟨gb,0,none⟩)),some (.pointer (some ⟨gb,0,none⟩)),some (.pointer (some ⟨gb,0,none⟩)),some (v),some (.agg #[.int .i64 i.k,.int .i64 i.n,.string i.nm,.string i.op,.int .i64 i.p,.int .i64 i.tg]),none,none,some (.pointer (some ⟨gb,0,none⟩)),some (.pointer (some ⟨gb,0,none⟩)),none]:List (Option Value)).getD j none) (by kernel_rfl) (by kernel_rfl) (by kernel_rfl) (by kernel_rfl) ?iY ?rsE ?iW
 case iY=>exact ⟨dS.below (Below.refl _ _).drew (by omega),Xb.out,fun _=>HPB.out,fun _=>HRW.out,fun h=>(by cases h),fun h=>(by cases h),fun h=>(by cases h)⟩
 case rsE=>
  refine Reg.au.plain rfl (fun L u' T X hL hz hS hk K hK=>?_) ?_
  ·have g0:=hk.old 0 rfl
   have hK:=hK _ X hS (fun _ hx=>Option.some.inj hx)
   clear hk hz hL
   go_simp
   exact hK
  refine Reg.au.plain rfl (fun L u' T X hL hz hS hk K hK=>?_) ?_
  ·have g0:=hk.old 0 rfl
   have hK:=hK _ X hS (fun _ hx=>Option.some.inj hx)
   clear hk hz hL
   go_simp
   exact hK
  refine Reg.au.plain rfl (fun L u' T X hL hz hS hk K hK=>?_) ?_
  ·have g6:=hk.val 1 6 rfl
   have hK:=hK _ X hS (fun _ hx=>Option.some.inj hx)
   clear hk hz hL
   go_simp
   exact hK
  refine Reg.au.plain rfl (fun L u' T X hL hz hS hk K hK=>?_) ?_
  ·have g7:=hk.val 2 7 rfl
   have hK:=hK _ X hS (fun _ hx=>Option.some.inj hx)
   clear hk hz hL
   go_simp
   exact hK
  refine Reg.au.plain rfl (fun L u' T X hL hz hS hk K hK=>?_) ?_
  ·have g8:=hk.val 3 8 rfl
   have hd:L 10=false:=hz 10 (by kernel_rfl)
   obtain ⟨c0,_,hbz⟩:=bU (hS.pat hd)
   have hK:=hK _ X hS (fun _ hx=>Option.some.inj hx)
   clear hk hz hL hd
   go_simp
   exact hK
  refine Reg.au.plain rfl (fun L u' T X hL hz hS hk K hK=>?_) ?_
  ·have g3:=hk.old 3 rfl
   have hbx:=hS.box
   rw [pz.out] at hbx
   obtain ⟨c0,c1,c2,c3,c4,c5,hbz⟩:=aH hbx
   have hK:=hK _ X hS (fun _ hx=>Option.some.inj hx)
   clear hk hz hL hbx
   go_simp
   exact hK
  refine Reg.au.plain rfl (fun L u' T X hL hz hS hk K hK=>?_) ?_
  ·have g10:=hk.val 5 10 rfl
   have hd7:L 7=false:=hz 7 (by kernel_rfl)
   have hd10:L 10=false:=hz 10 (by kernel_rfl)
   have hK:=hK (.slice (some ⟨X.heap.size,0,none⟩) 1 1) (X.alloc (.cells #[.int .i64 i.k,.int .i64 i.n,.string i.nm,.string i.op,.int .i64 i.p,.int .i64 i.tg] 156)) ⟨hS.ch.alloc (by omega) _,fO hS.box _,fun _=>fO (hS.pat hd10) _,fun _=>(hS.row hd7).alloc _,fun _ _=>⟨_,rfl,by rw [pz.out];exact dN X _⟩,fun h=>(by rw [Reg.upd_ne _ _ (by decide),hd7] at h;cases h),fun h=>(by rw [Reg.upd_ne _ _ (by decide),hd10] at h;cases h)⟩ (fun _ hx=>by cases hx)
   clear hk hz hL hd7 hd10 hS
   go_simp
   exact hK
  refine Reg.au.plain rfl (fun L u' T X hL hz hS hk K hK=>?_) ?_
  ·have g9:=hk.val 4 9 rfl
   obtain ⟨g11,l11⟩:=hk.any 6 11
   have hd10:L 10=false:=hz 10 (by kernel_rfl)
   obtain ⟨gl,e6,hg⟩:=hS.lit l11 hL
   rw [e6] at g11
   refine wp_append_own X (.tmp 9) (.tmp 11) 109 rfl B 156 i0 z0 6 64 Tryz.underlying109 hi hz0 hz1 hz2 hz3 (by decide) v l.length (jL l) (by simp [Act.eval,g9]) (hS.row hL) ⟨gl,0,none⟩ 1 1 cs (by simp [Act.eval,g11]) HL7.out (fun j u hj=>by rw [WideShapes.add_plain,Nat.zero_add,Lib.cell_of_heap hg];simpa using hj) HONE.out (by unfold maxLen;omega) (by omega) (Nat.le_trans hBw (by have:=hS.ch.bel.size;omega)) ?_
   intro v' w' hown hgr _
   exact hK v' w' ⟨hS.ch.grown (by omega) (hS.row hL) hgr,nI hS.box hgr WY.out,fun _=>nI (hS.pat hd10) hgr (vC (hS.row hL) (hS.pat hd10) (by decide)),fun h=>(by rw [Reg.upd_same] at h;cases h),fun _ h=>(by rw [Reg.upd_same] at h;cases h),fun _=>(by rw [Reg.upd_same];exact hown),fun h=>(by rw [Reg.upd_ne _ _ (by decide),hd10] at h;cases h)⟩ (fun _ hx=>by cases hx)
  refine Reg.au.plain rfl (fun L u' T X hL hz hS hk K hK=>?_) ?_
  ·have g5:=hk.val 0 5 rfl
   have hK:=hK _ X hS (fun _ hx=>Option.some.inj hx)
   clear hk hz hL
   go_simp
   exact hK
  refine Reg.au.plain rfl (fun L u' T X hL hz hS hk K hK=>?_) ?_
  ·have g13:=hk.val 8 13 rfl
   have hK:=hK _ X hS (fun _ hx=>Option.some.inj hx)
   clear hk hz hL
   go_simp
   exact hK
  refine Reg.au.plain rfl (fun L u' T X hL hz hS hk K hK=>?_) ?_
  ·obtain ⟨g12,l12⟩:=hk.any 7 12
   have g14:=hk.val 9 14 rfl
   obtain ⟨c0,f0,hbz⟩:=bU (hS.pat hL)
   have hnew:=hS.new l12
   have hK:=hK undef (X.setCell ⟨gb,0,none⟩ (u' 7)) ⟨hS.ch.fM (hS.pat hL) hB _ _,(Below.heap_setCell _ _ _ _ (by simp;omega)).trans hS.box,fun h=>(by rw [Reg.upd_same] at h;cases h),fun h=>(by rw [Reg.upd_ne _ _ (by decide),l12] at h;cases h),fun _ h=>(by rw [Reg.upd_ne _ _ (by decide),l12] at h;cases h),fun _=>(by rw [Reg.upd_ne _ _ (by decide)];exact BM hnew (hS.pat hL) (by decide) _ _),fun _=>(by rw [Reg.upd_ne _ _ (by decide)];exact wI (hS.pat hL))⟩ (fun _ hx=>by cases hx)
   obtain ⟨a7,cap7,e7⟩:=dW hnew
   rw [e7] at hK g12
   clear hk hz hL hS hnew
   go_simp
   exact hK
  exact Reg.au.nil
 case iW=>
  intro L u' w1 hL hS hI
  have e0:u' 0= .pointer (some ⟨gb,0,none⟩):=hI 0 (by decide) _ rfl
  have e1:u' 1= .pointer (some ⟨gb,0,none⟩):=hI 1 (by decide) _ rfl
  have e2:u' 2= .pointer (some ⟨gb,0,none⟩):=hI 2 (by decide) _ rfl
  have e3:u' 3= .pointer (some ⟨gb,0,none⟩):=hI 3 (by decide) _ rfl
  have e4:u' 4=v:=hI 4 (by decide) _ rfl
  have e5:u' 5= .agg #[.int .i64 i.k,.int .i64 i.n,.string i.nm,.string i.op,.int .i64 i.p,.int .i64 i.tg]:=hI 5 (by decide) _ rfl
  have e8:u' 8= .pointer (some ⟨gb,0,none⟩):=hI 8 (by decide) _ rfl
  have e9:u' 9= .pointer (some ⟨gb,0,none⟩):=hI 9 (by decide) _ rfl
  clear hI
  simp only [Reg.aK,Act.put,List.setIfInBounds_toArray,List.set_cons_succ,List.set_cons_zero,Nat.zero_add,Nat.reduceAdd,e0,e1,e2,e3,e4,e5,e8,e9]
  clear e0 e1 e2 e3 e4 e5 e8 e9
  have d7:=hL 7 (by decide)
  have d10:=hL 10 (by decide)
  have hnew:=hS.new d7
  have hpat:=hS.pat' d10
  have HC:=Lib.hid (HCW.out.trans hS.ch)
  have Zh:=Lib.hid hnew
  have Zg:=Lib.hid hpat
  generalize u' 6=y6 at*
  generalize u' 7=y7 at*
  obtain ⟨oa,oc,rfl⟩:=dW Zh.out
  clear hS hnew hpat d7 d10 hL u' L
  obtain ⟨c0,f0,hbz⟩:=bU Zg.out
  go_wp2
  go_ret
  exact ⟨by simp,⟨hB,_,Zg.out,by rw [List.length_append,HR.out];exact Zh.out⟩,HC.out⟩
theorem RowOf.kid {w:World} {B:Nat} {kv:Value} {n:Nat} {ks:Nat→Tr} {vs:Nat→Value} (h:RowOf w (fun k=>k<B) kv n (iF ks vs n)): ∃g cap cur,kv= .slice (some ⟨g,0,none⟩) n cap∧n≤cap∧g<B∧w.heap[g]? =some (.cells cur 30 (0,0))∧
  ∀i,i<n→ ∀j u,((ks i).cells (vs i))[j]? =some u→cur[i*6+j]? =some u:=by
 obtain ⟨g,cap,cur,e,hS,h1,h2,hg,ht⟩:=h
 refine ⟨g,cap,cur,e,h1,hS,hg,fun i hi j u hu=>?_⟩
 have hj:j<6:=by have:=(List.getElem?_eq_some_iff.1 hu).1;rwa [Tr.aT] at this
 have h3:=zJ ks vs n i j hi hj
 rw [hu, ←ht,List.getElem?_take,if_pos (by omega)] at h3
 rw [←Array.getElem?_toList]
 exact h3
structure nO (B cb x0 x1:Nat) (w W:World) (r0:Array Value) (t0:TypeId) (pc:Array Value) (l:List Ins) (X:World):Prop where
 co:aY B cb l X
 ch:dS B w X
 sz:W.heap.size≤X.heap.size
 b0:X.heap[x0]? =some (.cells r0 t0 (0,0))
 b1:X.heap[x1]? =some (.cells pc 30 (0,0))
theorem nO.step {B cb x0 x1:Nat} {w W:World} {r0:Array Value} {t0:TypeId} {pc:Array Value} {l l':List Ins} {X X':World} (h:nO B cb x0 x1 w W r0 t0 pc l X) (hg:aY B cb l' X') (hc:dS B X X') (h1:t0≠154) (h2:t0≠156):nO B cb x0 x1 w W r0 t0 pc l' X':=
 ⟨hg,h.ch.trans hc,Nat.le_trans h.sz hc.bel.size,hc.blk h.b0 h1 h2,hc.blk h.b1 (by decide) (by decide)⟩
theorem nO.drew {B cb x0 x1:Nat} {w W:World} {r0:Array Value} {t0:TypeId} {pc:Array Value} {l:List Ins} {X:World} (h:nO B cb x0 x1 w W r0 t0 pc l X) (hB:B≤w.heap.size):nO B cb x0 x1 w W r0 t0 pc l X.drew:=
 ⟨h.co.below (Below.refl _ _).drew,h.ch.trans (dS.below (Below.refl _ _).drew (Nat.le_trans hB h.ch.bel.size)),h.sz,h.b0,h.b1⟩
def fF (t:Tr):Prop:= ∀(B cb:Nat) (kv:Value) (l:List Ins) (w:World),aY B cb l w→B≤w.heap.size→t.Lay w (fun k=>k<B) kv→l.length+(comp t 0).length≤1000000→
 Calls Tryz.prog 96 #[.pointer (some ⟨cb,0,none⟩),t.v kv] w fun x w'=>x= .returned (.tuple #[])∧aY B cb (l++comp t l.length) w'∧dS B w w'
def vM (w:World) (cb:Nat) (pc:Array Value):World:=(w.alloc (.cells #[.pointer (some ⟨cb,0,none⟩)] 187)).alloc (.cells pc 30)
theorem jO {B cb:Nat} {l:List Ins} {w:World} (h:aY B cb l w) (hB:B≤w.heap.size) (pc:Array Value):nO B cb w.heap.size (w.heap.size+1) w (vM w cb pc) #[.pointer (some ⟨cb,0,none⟩)] 187 pc l (vM w cb pc):=by
 have hb:Below w.heap.size w (vM w cb pc):=((Below.refl _ _).alloc (Nat.le_refl _) _).alloc (by simp) _
 refine ⟨h.below hb,dS.below hb hB,Nat.le_refl _,fO (dN w _) _,?_⟩
 have h1:(w.alloc (.cells #[.pointer (some ⟨cb,0,none⟩)] 187)).heap.size=w.heap.size+1:=by simp
 have:=dN (w.alloc (.cells #[.pointer (some ⟨cb,0,none⟩)] 187)) (.cells pc 30)
 rw [h1] at this
 exact this
theorem sH {B cb:Nat} {l:List Ins} {w:World} (h:aY B cb l w) (hB:B≤w.heap.size) (pc:Array Value):nO B cb w.heap.size w.heap.size w (w.alloc (.cells pc 30)) pc 30 pc l (w.alloc (.cells pc 30)):=by
 have hb:Below w.heap.size w (w.alloc (.cells pc 30)):=(Below.refl _ _).alloc (Nat.le_refl _) _
 exact ⟨h.below hb,dS.below hb hB,Nat.le_refl _,dN w _,dN w _⟩
structure BrS (B cb x0:Nat) (w W:World) (pc:Array Value) (l0 l1:List Ins) (sv:Value) (d:Bool) (X:World):Prop where
 pt:nO B cb x0 x0 w W pc 30 pc (if d=true then l1 else l0) X
 pat:d=false→X.heap[cb]? =some (.cells #[sv] 154 (0,0))
theorem set_mid {α:Type} (x:List α) (u v:α) (y:List α):(x++u::y).set x.length v=x++v::y:=by
 rw [List.set_append_right _ _ (Nat.le_refl _),Nat.sub_self]
 rfl
theorem Kv {α:Type} (x:List α) (u:α) (y:List α):(x++u::y)[x.length]? =some u:=by
 rw [List.getElem?_append_right (Nat.le_refl _),Nat.sub_self]
 rfl
theorem br5 (l1 Y:List Ins) (k:Nat):(((l1++[qA 0])++Y)++[eH 0]).set l1.length ((qA 0).goes k)=(l1++(qA k::Y))++[eH 0]:=by
 rw [show ((l1++[qA 0])++Y)++[eH 0]=l1++qA 0::(Y++[eH 0]) by simp,set_mid]
 simp [Ins.goes,qA]
theorem br7 (x N:List Ins) (k:Nat):((x++[eH 0])++N).set x.length ((eH 0).goes k)=x++(eH k::N):=by
 rw [show (x++[eH 0])++N=x++eH 0::N by simp,set_mid]
 rfl
theorem qQ (B cb:Nat) (l A Y N:List Ins) (fy fn:Nat) (cy cn:Array Value) (t:Tr) (kv:Value) (w:World) (h:aY B cb l w) (hBw:B≤w.heap.size) (hkv: ∃o m c,kv= .slice o m c)
  (hey: ∀X,(callFunc fy cy).run Tryz.prog X= .ok (.enter fy cy) X) (hen: ∀X,(callFunc fn cn).run Tryz.prog X= .ok (.enter fn cn) X)
  (hlen:l.length+A.length+Y.length+N.length+2≤1000001)
  (ha: ∀X,aY B cb l X→dS B w X→Calls Tryz.prog 96 #[.pointer (some ⟨cb,0,none⟩),t.v kv] X fun x w'=>x= .returned (.tuple #[])∧aY B cb (l++A) w'∧dS B X w')
  (hy: ∀X i,aY B cb ((l++A)++[i]) X→dS B w X→Calls Tryz.prog fy cy X fun x w'=>x= .returned (.tuple #[])∧aY B cb (((l++A)++[i])++Y) w'∧dS B X w')
  (hn: ∀X m,m.length=l.length+A.length+Y.length+2→aY B cb m X→dS B w X→Calls Tryz.prog fn cn X fun x w'=>x= .returned (.tuple #[])∧aY B cb (m++N) w'∧dS B X w'):
  Calls Tryz.prog 126 #[.pointer (some ⟨cb,0,none⟩),t.v kv,.func (.func fy) #[] cy,.func (.func fn) #[] cn] w fun x w'=>x= .returned (.tuple #[])∧aY B cb (l++(A++(qA (l.length+A.length+1+Y.length+1)::(Y++(eH (l.length+A.length+1+Y.length+1+N.length)::N))))) w'∧dS B w w':=by
 obtain ⟨ko,km,kc,rfl⟩:=hkv
 obtain ⟨l1,hl1⟩: ∃l1,l1=l++A:=⟨_,rfl⟩
 have n1:l1.length=l.length+A.length:=by rw [hl1,List.length_append]
 obtain ⟨l3,hl3⟩: ∃l3,l3=(l1++[qA 0])++Y:=⟨_,rfl⟩
 have n3:l3.length=l1.length+1+Y.length:=by rw [hl3,List.length_append,List.length_append];rfl
 obtain ⟨l4,hl4⟩: ∃l4,l4=l3++[eH 0]:=⟨_,rfl⟩
 have n4:l4.length=l3.length+1:=by rw [hl4,List.length_append];rfl
 have h4i:l4[l1.length]? =some (qA 0):=by rw [hl4,hl3];simp only [List.append_assoc,List.singleton_append];exact Kv _ _ _
 obtain ⟨l5,hl5⟩: ∃l5,l5=l4.set l1.length ((qA 0).goes l4.length):=⟨_,rfl⟩
 have n5:l5.length=l4.length:=by rw [hl5,List.length_set]
 have e5:l5=(l1++(qA l4.length::Y))++[eH 0]:=by rw [hl5,hl4,hl3];exact br5 _ _ _
 obtain ⟨l6,YB⟩: ∃l6,l6=l5++N:=⟨_,rfl⟩
 have n6:l6.length=l5.length+N.length:=by rw [YB,List.length_append]
 have h6i:l6[l3.length]? =some (eH 0):=by
  rw [YB,e5,List.append_assoc,show l3.length=(l1++(qA l4.length::Y)).length by simp [n3];omega]
  exact Kv _ _ _
 obtain ⟨l7,hl7⟩: ∃l7,l7=l6.set l3.length ((eH 0).goes l6.length):=⟨_,rfl⟩
 have e7:l7=(l1++(qA l4.length::Y))++(eH l6.length::N):=by
  rw [hl7,YB,e5,show l3.length=(l1++(qA l4.length::Y)).length by simp [n3];omega]
  exact br7 _ _ _
 have HL7:Hid (l7=l++(A++(qA (l.length+A.length+1+Y.length+1)::(Y++(eH (l.length+A.length+1+Y.length+1+N.length)::N))))):=Lib.hid (by
  rw [e7,hl1,show l4.length=l.length+A.length+1+Y.length+1 by omega,show l6.length=l.length+A.length+1+Y.length+1+N.length by omega]
  simp)
 rw [←HL7.out]
 obtain ⟨pc,hpc⟩: ∃pc:Array Value,pc= #[.string t.op,.int .i64 t.val,.string t.nm,.int .i64 t.pos,.int .i64 t.aG,.slice ko km kc]:=⟨_,rfl⟩
 obtain ⟨W,hW⟩: ∃W,W=w.alloc (.cells pc 30):=⟨_,rfl⟩
 have fD:Hid (nO B cb w.heap.size w.heap.size w W pc 30 pc l W):=Lib.hid (by rw [hW];exact sH h hBw pc)
 have dR:Hid (W=w.alloc (.cells #[.string t.op,.int .i64 t.val,.string t.nm,.int .i64 t.pos,.int .i64 t.aG,.slice ko km kc] 30)):=Lib.hid (by rw [hW,hpc])
 have jQ:=Lib.hid hpc
 have HA:=Lib.hid ha
 have tH:Hid (∀X,aY B cb l1 X→B≤X.heap.size→Calls Tryz.prog 124 #[.pointer (some ⟨cb,0,none⟩),.agg (qA 0:Ins).cells.toArray] X fun x w'=>x= .returned (.int .i64 (l1.length:Nat))∧aY B cb (l1++[qA 0]) w'∧dS B X w'):=Lib.hid (fun X hX hB=>gB B cb _ _ X hX hB (by omega))
 have TV:Hid (∀X,aY B cb l3 X→B≤X.heap.size→Calls Tryz.prog 124 #[.pointer (some ⟨cb,0,none⟩),.agg (eH 0:Ins).cells.toArray] X fun x w'=>x= .returned (.int .i64 (l3.length:Nat))∧aY B cb l4 w'∧dS B X w'):=Lib.hid (fun X hX hB=>by rw [hl4];exact gB B cb _ _ X hX hB (by omega))
 have HY:Hid (∀X,aY B cb (l1++[qA 0]) X→dS B w X→Calls Tryz.prog fy cy X fun x w'=>x= .returned (.tuple #[])∧aY B cb l3 w'∧dS B X w'):=Lib.hid (fun X hX hC=>by rw [hl1] at hX;have:=hy X _ hX hC;rwa [←hl1, ←hl3] at this)
 have HN:Hid (∀X,aY B cb l5 X→dS B w X→Calls Tryz.prog fn cn X fun x w'=>x= .returned (.tuple #[])∧aY B cb l6 w'∧dS B X w'):=Lib.hid (fun X hX hC=>by rw [YB];exact hn X l5 (by omega) hX hC)
 rw [←hl1] at HA
 have H4I:=Lib.hid h4i
 have H6I:=Lib.hid h6i
 have HL5:=Lib.hid hl5
 have HL7E:=Lib.hid hl7
 have hk1:(l1.length:Int)<(l4.length:Int):=by omega
 have hk2:(l3.length:Int)<(l6.length:Int):=by omega
 clear h hy hn ha hpc hW hl1 n1 hl3 n3 hl4 n4 h4i hl5 n5 e5 YB n6 h6i hl7 e7 hlen HL7
 have hb1:=fD.out.b1
 rw [jQ.out] at hb1
 obtain ⟨c0,c1,c2,c3,c4,c5,hz1⟩:=aH hb1
 clear hb1
 unfold Tr.v at HA⊢
 go_enter Tryz.func126,Tryz.ntmps126
 go_upto_region 1 with fail
 rw [←dR.out]
 go_wp2_with fail
 refine (HA.out _ fD.out.co fD.out.ch).mono ?_
 rintro x w1 ⟨rfl,hg1,hc1⟩
 have dZ:=Lib.hid (fD.out.step hg1 hc1 (by decide) (by decide))
 clear hg1 hc1 c0 c1 c2 c3 c4 c5 hz1
 go_wp2_with fail
 refine (tH.out _ dZ.out.co (Nat.le_trans hBw dZ.out.ch.bel.size)).mono ?_
 rintro x w2 ⟨rfl,hg1,hc1⟩
 have HS2:=Lib.hid (dZ.out.step hg1 hc1 (by decide) (by decide))
 clear hg1 hc1
 go_wp2_with fail
 refine (HY.out _ HS2.out.co HS2.out.ch).mono ?_
 rintro x w3 ⟨rfl,hg1,hc1⟩
 have yE:=Lib.hid (HS2.out.step hg1 hc1 (by decide) (by decide))
 clear hg1 hc1
 go_wp2_with fail
 refine (TV.out _ yE.out.co (Nat.le_trans hBw yE.out.ch.bel.size)).mono ?_
 rintro x w4 ⟨rfl,hg1,hc1⟩
 have HS4:=Lib.hid (yE.out.step hg1 hc1 (by decide) (by decide))
 clear hg1 hc1
 go_wp2_with fail
 obtain ⟨g4,cap4,u4,hp4,hnc4,_⟩:=HS4.out.co.goes H4I.out 0
 have HP4:=Lib.hid hp4
 clear hp4
 refine Reg.aJ (fun L u X=>BrS B cb w.heap.size w W pc l4 l5 (.slice (some ⟨g4,0,none⟩) l4.length cap4) (L 12) X) (fun j=>([some (.pointer (some ⟨cb,0,none⟩)),some (.pointer (some ⟨cb,0,none⟩)),some (.pointer (some ⟨cb,0,none⟩)),some (.slice (some ⟨g4,0,none⟩) l4.length cap4),some (.int .i64 (l1.length:Nat)),some (.pointer (some ⟨cb,0,none⟩)),some (.pointer (some ⟨cb,0,none⟩)),some (.pointer (some ⟨cb,0,none⟩)),some (.slice (some ⟨g4,0,none⟩) l4.length cap4),some (.int .i64 (l4.length:Nat)),some (.pointer (some ⟨g4,l1.length*6,none⟩)),some (.pointer (some ⟨g4,l1.length*6+5,none⟩)),none]:List (Option Value)).getD j none) (by kernel_rfl) (by kernel_rfl) (by kernel_rfl) (by kernel_rfl) ?iY ?rsE ?iW
 case iY=>exact ⟨HS4.out.drew hBw,fun _=>HP4.out⟩
 case rsE=>
  refine Reg.au.plain rfl (fun L u T X hL hz hS hk K hK=>?_) ?_
  ·have g0:=hk.old 0 rfl
   have hK:=hK _ X hS (fun _ hx=>Option.some.inj hx)
   clear hk hz hL
   go_simp
   exact hK
  refine Reg.au.plain rfl (fun L u T X hL hz hS hk K hK=>?_) ?_
  ·have g21:=hk.val 0 21 rfl
   have hK:=hK _ X hS (fun _ hx=>Option.some.inj hx)
   clear hk hz hL
   go_simp
   exact hK
  refine Reg.au.plain rfl (fun L u T X hL hz hS hk K hK=>?_) ?_
  ·have g22:=hk.val 1 22 rfl
   have hK:=hK _ X hS (fun _ hx=>Option.some.inj hx)
   clear hk hz hL
   go_simp
   exact hK
  refine Reg.au.plain rfl (fun L u T X hL hz hS hk K hK=>?_) ?_
  ·have g23:=hk.val 2 23 rfl
   have hd:L 12=false:=hz 12 (by kernel_rfl)
   obtain ⟨c0,_,hbz⟩:=bU (hS.pat hd)
   have hK:=hK _ X hS (fun _ hx=>Option.some.inj hx)
   clear hk hz hL
   go_simp
   exact hK
  refine Reg.au.plain rfl (fun L u T X hL hz hS hk K hK=>?_) ?_
  ·have g8:=hk.old 8 rfl
   have hK:=hK _ X hS (fun _ hx=>Option.some.inj hx)
   clear hk hz hL
   go_simp
   exact hK
  refine Reg.au.plain rfl (fun L u T X hL hz hS hk K hK=>?_) ?_
  ·have g0:=hk.old 0 rfl
   have hK:=hK _ X hS (fun _ hx=>Option.some.inj hx)
   clear hk hz hL
   go_simp
   exact hK
  refine Reg.au.plain rfl (fun L u T X hL hz hS hk K hK=>?_) ?_
  ·have g26:=hk.val 5 26 rfl
   have hK:=hK _ X hS (fun _ hx=>Option.some.inj hx)
   clear hk hz hL
   go_simp
   exact hK
  refine Reg.au.plain rfl (fun L u T X hL hz hS hk K hK=>?_) ?_
  ·have g27:=hk.val 6 27 rfl
   have hK:=hK _ X hS (fun _ hx=>Option.some.inj hx)
   clear hk hz hL
   go_simp
   exact hK
  refine Reg.au.plain rfl (fun L u T X hL hz hS hk K hK=>?_) ?_
  ·have g28:=hk.val 7 28 rfl
   have hd:L 12=false:=hz 12 (by kernel_rfl)
   obtain ⟨c0,_,hbz⟩:=bU (hS.pat hd)
   have hK:=hK _ X hS (fun _ hx=>Option.some.inj hx)
   clear hk hz hL
   go_simp
   exact hK
  refine Reg.au.plain rfl (fun L u T X hL hz hS hk K hK=>?_) ?_
  ·have g29:=hk.val 8 29 rfl
   have hK:=hK _ X hS (fun _ hx=>Option.some.inj hx)
   clear hk hz hL
   go_simp
   exact hK
  refine Reg.au.plain rfl (fun L u T X hL hz hS hk K hK=>?_) ?_
  ·have g24:=hk.val 3 24 rfl
   have g25:=hk.val 4 25 rfl
   have hK:=hK _ X hS (fun _ hx=>Option.some.inj hx)
   clear hk hz hL
   go_simp
   exact hK
  refine Reg.au.plain rfl (fun L u T X hL hz hS hk K hK=>?_) ?_
  ·have g31:=hk.val 10 31 rfl
   have hK:=hK _ X hS (fun _ hx=>Option.some.inj hx)
   clear hk hz hL
   go_simp
   exact hK
  refine Reg.au.plain rfl (fun L u T X hL hz hS hk K hK=>?_) ?_
  ·have g30:=hk.val 9 30 rfl
   have g32:=hk.val 11 32 rfl
   have hS1:=hS.pt
   rw [hL,if_neg (by decide)] at hS1
   obtain ⟨g0,cap0,u0,hp,hnc,hcell,hfz,hlt,DI,hch'⟩:=hS1.co.goes H4I.out l4.length
   have hpp:=(hS.pat hL).symm.trans hp
   simp only [Option.some.injEq,Obj.cells.injEq,Array.mk.injEq,List.cons.injEq,Value.slice.injEq,Addr.mk.injEq,and_true,true_and] at hpp
   obtain ⟨rfl,rfl⟩:=hpp
   rw [←HL5.out] at DI
   have hSt:=hS1.ch
   have hK:=hK undef (X.setCell ⟨g4,l1.length*6+5,none⟩ (.int .i64 (l4.length:Nat))) ⟨(by rw [Reg.upd_same,if_pos rfl];exact hS1.step DI (hch' X (Nat.le_trans hBw hSt.bel.size) (dS.refl B X)) (by decide) (by decide)),fun h=>(by rw [Reg.upd_same] at h;cases h)⟩ (fun _ hx=>by cases hx)
   clear hk hz hL hS hS1 hSt hp hnc DI hch'
   go_simp
   exact hK
  exact Reg.au.nil
 case iW=>
  intro L u w5 hL hS hI
  have e0:=hI 0 (by decide) _ rfl
  have e1:=hI 1 (by decide) _ rfl
  have e2:=hI 2 (by decide) _ rfl
  have e3:=hI 3 (by decide) _ rfl
  have e4:=hI 4 (by decide) _ rfl
  have e5:=hI 5 (by decide) _ rfl
  have e6:=hI 6 (by decide) _ rfl
  have e7:=hI 7 (by decide) _ rfl
  have e8:=hI 8 (by decide) _ rfl
  have e9:=hI 9 (by decide) _ rfl
  have e10:=hI 10 (by decide) _ rfl
  have e11:=hI 11 (by decide) _ rfl
  clear hI
  simp only [Reg.aK,Act.put,List.setIfInBounds_toArray,List.set_cons_succ,List.set_cons_zero,Nat.zero_add,Nat.reduceAdd,e0,e1,e2,e3,e4,e5,e6,e7,e8,e9,e10,e11]
  clear e0 e1 e2 e3 e4 e5 e6 e7 e8 e9 e10 e11
  have h12:=hL 12 (by decide)
  have hS1:=hS.pt
  rw [h12,if_pos rfl] at hS1
  have HS5:=Lib.hid hS1
  clear hS hS1 h12 hL u L
  go_wp2_with fail
  refine (HN.out _ HS5.out.co HS5.out.ch).mono ?_
  rintro x w6 ⟨rfl,hg1,hc1⟩
  have HS6:=Lib.hid (HS5.out.step hg1 hc1 (by decide) (by decide))
  clear hg1 hc1
  go_wp2_with fail
  obtain ⟨g6,cap6,u6,hp6,hnc6,_⟩:=HS6.out.co.goes H6I.out 0
  have HP6:=Lib.hid hp6
  clear hp6
  refine Reg.aJ (fun L u X=>BrS B cb w.heap.size w W pc l6 l7 (.slice (some ⟨g6,0,none⟩) l6.length cap6) (L 12) X) (fun j=>([some (.pointer (some ⟨cb,0,none⟩)),some (.pointer (some ⟨cb,0,none⟩)),some (.pointer (some ⟨cb,0,none⟩)),some (.slice (some ⟨g6,0,none⟩) l6.length cap6),some (.int .i64 (l3.length:Nat)),some (.pointer (some ⟨cb,0,none⟩)),some (.pointer (some ⟨cb,0,none⟩)),some (.pointer (some ⟨cb,0,none⟩)),some (.slice (some ⟨g6,0,none⟩) l6.length cap6),some (.int .i64 (l6.length:Nat)),some (.pointer (some ⟨g6,l3.length*6,none⟩)),some (.pointer (some ⟨g6,l3.length*6+5,none⟩)),none]:List (Option Value)).getD j none) (by kernel_rfl) (by kernel_rfl) (by kernel_rfl) (by kernel_rfl) ?iY ?rsE ?iW
  case iY=>exact ⟨HS6.out.drew hBw,fun _=>HP6.out⟩
  case rsE=>
   refine Reg.au.plain rfl (fun L u T X hL hz hS hk K hK=>?_) ?_
   ·have g0:=hk.old 0 rfl
    have hK:=hK _ X hS (fun _ hx=>Option.some.inj hx)
    clear hk hz hL
    go_simp
    exact hK
   refine Reg.au.plain rfl (fun L u T X hL hz hS hk K hK=>?_) ?_
   ·have g35:=hk.val 0 35 rfl
    have hK:=hK _ X hS (fun _ hx=>Option.some.inj hx)
    clear hk hz hL
    go_simp
    exact hK
   refine Reg.au.plain rfl (fun L u T X hL hz hS hk K hK=>?_) ?_
   ·have g36:=hk.val 1 36 rfl
    have hK:=hK _ X hS (fun _ hx=>Option.some.inj hx)
    clear hk hz hL
    go_simp
    exact hK
   refine Reg.au.plain rfl (fun L u T X hL hz hS hk K hK=>?_) ?_
   ·have g37:=hk.val 2 37 rfl
    have hd:L 12=false:=hz 12 (by kernel_rfl)
    obtain ⟨c0,_,hbz⟩:=bU (hS.pat hd)
    have hK:=hK _ X hS (fun _ hx=>Option.some.inj hx)
    clear hk hz hL
    go_simp
    exact hK
   refine Reg.au.plain rfl (fun L u T X hL hz hS hk K hK=>?_) ?_
   ·have g9:=hk.old 9 rfl
    have hK:=hK _ X hS (fun _ hx=>Option.some.inj hx)
    clear hk hz hL
    go_simp
    exact hK
   refine Reg.au.plain rfl (fun L u T X hL hz hS hk K hK=>?_) ?_
   ·have g0:=hk.old 0 rfl
    have hK:=hK _ X hS (fun _ hx=>Option.some.inj hx)
    clear hk hz hL
    go_simp
    exact hK
   refine Reg.au.plain rfl (fun L u T X hL hz hS hk K hK=>?_) ?_
   ·have g40:=hk.val 5 40 rfl
    have hK:=hK _ X hS (fun _ hx=>Option.some.inj hx)
    clear hk hz hL
    go_simp
    exact hK
   refine Reg.au.plain rfl (fun L u T X hL hz hS hk K hK=>?_) ?_
   ·have g41:=hk.val 6 41 rfl
    have hK:=hK _ X hS (fun _ hx=>Option.some.inj hx)
    clear hk hz hL
    go_simp
    exact hK
   refine Reg.au.plain rfl (fun L u T X hL hz hS hk K hK=>?_) ?_
   ·have g42:=hk.val 7 42 rfl
    have hd:L 12=false:=hz 12 (by kernel_rfl)
    obtain ⟨c0,_,hbz⟩:=bU (hS.pat hd)
    have hK:=hK _ X hS (fun _ hx=>Option.some.inj hx)
    clear hk hz hL
    go_simp
    exact hK
   refine Reg.au.plain rfl (fun L u T X hL hz hS hk K hK=>?_) ?_
   ·have g43:=hk.val 8 43 rfl
    have hK:=hK _ X hS (fun _ hx=>Option.some.inj hx)
    clear hk hz hL
    go_simp
    exact hK
   refine Reg.au.plain rfl (fun L u T X hL hz hS hk K hK=>?_) ?_
   ·have g38:=hk.val 3 38 rfl
    have g39:=hk.val 4 39 rfl
    have hK:=hK _ X hS (fun _ hx=>Option.some.inj hx)
    clear hk hz hL
    go_simp
    exact hK
   refine Reg.au.plain rfl (fun L u T X hL hz hS hk K hK=>?_) ?_
   ·have YE:=hk.val 10 45 rfl
    have hK:=hK _ X hS (fun _ hx=>Option.some.inj hx)
    clear hk hz hL
    go_simp
    exact hK
   refine Reg.au.plain rfl (fun L u T X hL hz hS hk K hK=>?_) ?_
   ·have ZW:=hk.val 9 44 rfl
    have g46:=hk.val 11 46 rfl
    have hS1:=hS.pt
    rw [hL,if_neg (by decide)] at hS1
    obtain ⟨g0,cap0,u0,hp,hnc,hcell,hfz,hlt,DI,hch'⟩:=hS1.co.goes H6I.out l6.length
    have hpp:=(hS.pat hL).symm.trans hp
    simp only [Option.some.injEq,Obj.cells.injEq,Array.mk.injEq,List.cons.injEq,Value.slice.injEq,Addr.mk.injEq,and_true,true_and] at hpp
    obtain ⟨rfl,rfl⟩:=hpp
    rw [←HL7E.out] at DI
    have hSt:=hS1.ch
    have hK:=hK undef (X.setCell ⟨g6,l3.length*6+5,none⟩ (.int .i64 (l6.length:Nat))) ⟨(by rw [Reg.upd_same,if_pos rfl];exact hS1.step DI (hch' X (Nat.le_trans hBw hSt.bel.size) (dS.refl B X)) (by decide) (by decide)),fun h=>(by rw [Reg.upd_same] at h;cases h)⟩ (fun _ hx=>by cases hx)
    clear hk hz hL hS hS1 hSt hp hnc DI hch'
    go_simp
    exact hK
   exact Reg.au.nil
  case iW=>
   intro L u w7 hL hS hI
   have e0:=hI 0 (by decide) _ rfl
   have e1:=hI 1 (by decide) _ rfl
   have e2:=hI 2 (by decide) _ rfl
   have e3:=hI 3 (by decide) _ rfl
   have e4:=hI 4 (by decide) _ rfl
   have e5:=hI 5 (by decide) _ rfl
   have e6:=hI 6 (by decide) _ rfl
   have e7:=hI 7 (by decide) _ rfl
   have e8:=hI 8 (by decide) _ rfl
   have e9:=hI 9 (by decide) _ rfl
   have e10:=hI 10 (by decide) _ rfl
   have e11:=hI 11 (by decide) _ rfl
   clear hI
   simp only [Reg.aK,Act.put,List.setIfInBounds_toArray,List.set_cons_succ,List.set_cons_zero,Nat.zero_add,Nat.reduceAdd,e0,e1,e2,e3,e4,e5,e6,e7,e8,e9,e10,e11]
   clear e0 e1 e2 e3 e4 e5 e6 e7 e8 e9 e10 e11
   have h12:=hL 12 (by decide)
   have hS1:=hS.pt
   rw [h12,if_pos rfl] at hS1
   have HS7:=Lib.hid hS1
   clear hS hS1 h12 hL u L
   go_wp2_with fail
   go_end0
   exact ⟨rfl,HS7.out.co,HS7.out.ch⟩
theorem Ld (n:Int) (p:Nat):fF (.num n p):=by
 intro B cb kv l w h hBw dA hlen
 obtain rfl:kv= .slice none 0 0:=dA
 obtain ⟨pc,hpc⟩: ∃pc:Array Value,pc= #[.string ⟨#[110,117,109]⟩,.int .i64 n,.string ⟨#[]⟩,.int .i64 p,.int .i64 0,.slice none 0 0]:=⟨_,rfl⟩
 obtain ⟨W,hW⟩: ∃W,W=vM w cb pc:=⟨_,rfl⟩
 have nR:Hid (nO B cb w.heap.size (w.heap.size+1) w W #[.pointer (some ⟨cb,0,none⟩)] 187 pc l W):=Lib.hid (by rw [hW];exact jO h hBw pc)
 have dR:Hid (W=(w.alloc (.cells #[.pointer (some ⟨cb,0,none⟩)] 187)).alloc (.cells #[.string ⟨#[110,117,109]⟩,.int .i64 n,.string ⟨#[]⟩,.int .i64 p,.int .i64 0,.slice none 0 0] 30)):=Lib.hid (by rw [hW,hpc];rfl)
 have jQ:=Lib.hid hpc
 obtain ⟨_,_,_,_,_,_,hz1⟩:=aH (by have:=nR.out.b1;rw [jQ.out] at this;exact this)
 have tH:Hid (∀X,aY B cb (l) X→B≤X.heap.size→Calls Tryz.prog 124 #[.pointer (some ⟨cb,0,none⟩),.agg (lT n:Ins).cells.toArray] X fun x w'=>x= .returned (.int .i64 ((l).length:Nat))∧aY B cb (l++[lT n]) w'∧dS B X w'):=Lib.hid (fun X hX hB=>gB B cb _ _ X hX hB (by omega))
 clear h hlen hpc hW
 have d0:W.cell? ⟨w.heap.size,0,none⟩=some (.pointer (some ⟨cb,0,none⟩)):=(Lib.cell_of_heap nR.out.b0 0).trans rfl
 have hb1:=nR.out.b1
 rw [jQ.out] at hb1
 obtain ⟨c0,c1,c2,c3,c4,c5,_⟩:=aH hb1
 clear hb1
 show Calls Tryz.prog 96 #[.pointer (some ⟨cb,0,none⟩),.agg #[.string ⟨#[110,117,109]⟩,.int .i64 n,.string ⟨#[]⟩,.int .i64 p,.int .i64 0,.slice none 0 0]] w _
 go_enter Tryz.func96,Tryz.ntmps96
 go_upto_region 4 with fail
 rw [←dR.out]
 go_wp2_with fail
 refine (tH.out W nR.out.co (Nat.le_trans hBw nR.out.ch.bel.size)).mono ?_
 rintro x w2 ⟨rfl,hg1,hc1⟩
 have Dz:=Lib.hid hg1
 have ou:=Lib.hid (nR.out.ch.trans hc1)
 clear hg1 hc1
 go_wp2_with fail
 go_end0
 exact ⟨rfl,Dz.out,ou.out⟩
theorem Hu (s:ByteArray) (p:Nat):fF (.name s p):=by
 intro B cb kv l w h hBw dA hlen
 obtain rfl:kv= .slice none 0 0:=dA
 obtain ⟨pc,hpc⟩: ∃pc:Array Value,pc= #[.string ⟨#[110,97,109,101]⟩,.int .i64 0,.string s,.int .i64 p,.int .i64 0,.slice none 0 0]:=⟨_,rfl⟩
 obtain ⟨W,hW⟩: ∃W,W=vM w cb pc:=⟨_,rfl⟩
 have nR:Hid (nO B cb w.heap.size (w.heap.size+1) w W #[.pointer (some ⟨cb,0,none⟩)] 187 pc l W):=Lib.hid (by rw [hW];exact jO h hBw pc)
 have dR:Hid (W=(w.alloc (.cells #[.pointer (some ⟨cb,0,none⟩)] 187)).alloc (.cells #[.string ⟨#[110,97,109,101]⟩,.int .i64 0,.string s,.int .i64 p,.int .i64 0,.slice none 0 0] 30)):=Lib.hid (by rw [hW,hpc];rfl)
 have jQ:=Lib.hid hpc
 obtain ⟨_,_,_,_,_,_,hz1⟩:=aH (by have:=nR.out.b1;rw [jQ.out] at this;exact this)
 have tH:Hid (∀X,aY B cb (l) X→B≤X.heap.size→Calls Tryz.prog 124 #[.pointer (some ⟨cb,0,none⟩),.agg (dU s p:Ins).cells.toArray] X fun x w'=>x= .returned (.int .i64 ((l).length:Nat))∧aY B cb (l++[dU s p]) w'∧dS B X w'):=Lib.hid (fun X hX hB=>gB B cb _ _ X hX hB (by omega))
 clear h hlen hpc hW
 have d0:W.cell? ⟨w.heap.size,0,none⟩=some (.pointer (some ⟨cb,0,none⟩)):=(Lib.cell_of_heap nR.out.b0 0).trans rfl
 have hb1:=nR.out.b1
 rw [jQ.out] at hb1
 obtain ⟨c0,c1,c2,c3,c4,c5,_⟩:=aH hb1
 clear hb1
 show Calls Tryz.prog 96 #[.pointer (some ⟨cb,0,none⟩),.agg #[.string ⟨#[110,97,109,101]⟩,.int .i64 0,.string s,.int .i64 p,.int .i64 0,.slice none 0 0]] w _
 go_enter Tryz.func96,Tryz.ntmps96
 go_upto_region 4 with fail
 rw [←dR.out]
 go_wp2_with fail
 refine (tH.out W nR.out.co (Nat.le_trans hBw nR.out.ch.bel.size)).mono ?_
 rintro x w2 ⟨rfl,hg1,hc1⟩
 have Dz:=Lib.hid hg1
 have ou:=Lib.hid (nR.out.ch.trans hc1)
 clear hg1 hc1
 go_wp2_with fail
 go_end0
 exact ⟨rfl,Dz.out,ou.out⟩
theorem Pj (op:ByteArray) (p:Nat) (a:Tr) (iha:fF a) (hn0: ¬op=⟨#[110,117,109]⟩) (hn1: ¬op=⟨#[110,97,109,101]⟩) (hn2: ¬op=⟨#[63]⟩) (hn3: ¬op=⟨#[38,38]⟩) (hn4: ¬op=⟨#[124,124]⟩):fF (.un op p a):=by
 intro B cb kv l w h hBw dA hlen
 obtain ⟨va,hr,ha⟩:=dA
 have hr':RowOf w (fun k=>k<B) kv 1 (iF (k1 a) (v1 va) 1):=by rw [qF];exact hr
 obtain ⟨g,cap,cur,rfl,hcap,hgB,hg,hcl⟩:=hr'.kid
 have hka: ∀j u,(a.cells va)[j]? =some u→cur[0+j]? =some u:=hcl 0 (by omega)
 obtain ⟨pc,hpc⟩: ∃pc:Array Value,pc= #[.string op,.int .i64 0,.string ⟨#[]⟩,.int .i64 p,.int .i64 0,.slice (some ⟨g,0,none⟩) 1 cap]:=⟨_,rfl⟩
 have hcl:(comp (.un op p a) 0).length=(comp a 0).length+1:=by simp [comp]
 have hla:(comp a l.length).length=(comp a 0).length:=aW _ _ _
 rw [hcl] at hlen
 obtain ⟨W,hW⟩: ∃W,W=vM w cb pc:=⟨_,rfl⟩
 have nR:Hid (nO B cb w.heap.size (w.heap.size+1) w W #[.pointer (some ⟨cb,0,none⟩)] 187 pc l W):=Lib.hid (by rw [hW];exact jO h hBw pc)
 have dR:Hid (W=(w.alloc (.cells #[.pointer (some ⟨cb,0,none⟩)] 187)).alloc (.cells #[.string op,.int .i64 0,.string ⟨#[]⟩,.int .i64 p,.int .i64 0,.slice (some ⟨g,0,none⟩) 1 cap] 30)):=Lib.hid (by rw [hW,hpc];rfl)
 have jQ:=Lib.hid hpc
 have xq:=Lib.hid hgB
 have xI:=Lib.hid hg
 obtain ⟨_,_,_,_,_,_,hz1⟩:=aH (by have:=nR.out.b1;rw [jQ.out] at this;exact this)
 have Oh:=Lib.hid hka
 have Ud:Hid (∀X,aY B cb (l) X→dS B w X→Calls Tryz.prog 96 #[.pointer (some ⟨cb,0,none⟩),.agg (a.cells va).toArray] X fun x w'=>x= .returned (.tuple #[])∧aY B cb (l++comp a (l).length) w'∧dS B X w'):=Lib.hid (fun X hX hC=>iha B cb va _ X hX (Nat.le_trans hBw hC.bel.size) (ha.kept (fun k hk _=>hC.bel.block k hk) a va) (by omega))
 have tH:Hid (∀X,aY B cb (l++comp a l.length) X→B≤X.heap.size→Calls Tryz.prog 124 #[.pointer (some ⟨cb,0,none⟩),.agg (mV op:Ins).cells.toArray] X fun x w'=>x= .returned (.int .i64 ((l++comp a l.length).length:Nat))∧aY B cb (l++comp a l.length++[mV op]) w'∧dS B X w'):=Lib.hid (fun X hX hB=>gB B cb _ _ X hX hB (by rw [List.length_append];omega))
 have thn0:=aX hn0
 have thn1:=aX hn1
 have thn2:=aX hn2
 have thn3:=aX hn3
 have thn4:=aX hn4
 clear h hlen hpc hW hr hr' ha hka hcl hla iha hgB hg hcap hn0 hn1 hn2 hn3 hn4
 have d0:W.cell? ⟨w.heap.size,0,none⟩=some (.pointer (some ⟨cb,0,none⟩)):=(Lib.cell_of_heap nR.out.b0 0).trans rfl
 have hb1:=nR.out.b1
 rw [jQ.out] at hb1
 obtain ⟨c0,c1,c2,c3,c4,c5,_⟩:=aH hb1
 clear hb1
 show Calls Tryz.prog 96 #[.pointer (some ⟨cb,0,none⟩),.agg #[.string op,.int .i64 0,.string ⟨#[]⟩,.int .i64 p,.int .i64 0,.slice (some ⟨g,0,none⟩) 1 cap]] w _
 go_enter Tryz.func96,Tryz.ntmps96
 go_upto_region 4 with fail
 rw [←dR.out]
 go_wp2_with fail
 refine Reg.aJ (fun L u X=>nO B cb w.heap.size (w.heap.size+1) w W #[.pointer (some ⟨cb,0,none⟩)] 187 pc (if L 5=true then l++comp a (l).length else l) X) (fun j=>([some (.pointer (some ⟨cb,0,none⟩)),some (.pointer (some ⟨w.heap.size+1,5,none⟩)),some (.slice (some ⟨g,0,none⟩) 1 cap),some (.pointer (some ⟨g,0,none⟩)),some (.agg (a.cells va).toArray),some (.tuple #[])]:List (Option Value)).getD j none) (by kernel_rfl) (by kernel_rfl) (by kernel_rfl) (by kernel_rfl) ?iY ?rsE ?iW
 case iY=>exact nR.out.drew hBw
 case rsE=>
  refine Reg.au.plain rfl (fun L u T X hL hz hS hk K hK=>?_) ?_
  ·have g2:=hk.old 2 rfl
   have c0:=(Lib.cell_of_heap hS.b0 0).trans rfl
   have hK:=hK _ X hS (fun _ hx=>Option.some.inj hx)
   clear hk hz hL
   go_simp
   exact hK
  refine Reg.au.plain rfl (fun L u T X hL hz hS hk K hK=>?_) ?_
  ·have g3:=hk.old 3 rfl
   have hK:=hK _ X hS (fun _ hx=>Option.some.inj hx)
   clear hk hz hL
   go_simp
   exact hK
  refine Reg.au.plain rfl (fun L u T X hL hz hS hk K hK=>?_) ?_
  ·have g92:=hk.val 1 92 rfl
   have hb1:=hS.b1
   rw [jQ.out] at hb1
   obtain ⟨_,_,_,_,_,c5,_⟩:=aH hb1
   have hK:=hK _ X hS (fun _ hx=>Option.some.inj hx)
   clear hk hz hL hb1
   go_simp
   exact hK
  refine Reg.au.plain rfl (fun L u T X hL hz hS hk K hK=>?_) ?_
  ·have g93:=hk.val 2 93 rfl
   have hK:=hK _ X hS (fun _ hx=>Option.some.inj hx)
   clear hk hz hL
   go_simp
   exact hK
  refine Reg.au.plain rfl (fun L u T X hL hz hS hk K hK=>?_) ?_
  ·have g94:=hk.val 3 94 rfl
   refine bW 30 _ rfl g 0 (by simp [Act.eval,g94]) _ cur (a.cells va) (0,0) _ ((hS.ch.bel.block g xq.out).trans xI.out) (Oh.out) Tryz.underlying30 rfl (by rw [Tr.aT];exact dM) ?_
   exact hK _ X hS (fun _ hx=>Option.some.inj hx)
  refine Reg.au.plain rfl (fun L u T X hL hz hS hk K hK=>?_) ?_
  ·have g91:=hk.val 0 91 rfl
   have g95:=hk.val 4 95 rfl
   have hco:=hS.co
   rw [hL,if_neg (by decide)] at hco
   have hC:=Ud.out X hco hS.ch
   clear hk hz
   go_simp
   refine hC.mono ?_
   rintro x w' ⟨rfl,hg',hc'⟩
   refine hK _ w' ?_ (fun _ hx=>Option.some.inj hx)
   rw [Reg.upd_same,if_pos rfl]
   rw [hL,if_neg (by decide)] at hS
   exact hS.step hg' hc' (by decide) (by decide)
  exact Reg.au.nil
 case iW=>
  intro L u w1 hL hS hI
  have e0:=hI 0 (by decide) _ rfl
  have e1:=hI 1 (by decide) _ rfl
  have e2:=hI 2 (by decide) _ rfl
  have e3:=hI 3 (by decide) _ rfl
  have e4:=hI 4 (by decide) _ rfl
  have e5:=hI 5 (by decide) _ rfl
  clear hI
  simp only [Reg.aK,Act.put,List.setIfInBounds_toArray,List.set_cons_succ,List.set_cons_zero,Nat.zero_add,Nat.reduceAdd,e0,e1,e2,e3,e4,e5]
  clear e0 e1 e2 e3 e4 e5
  have hL5:=hL 5 (by decide)
  rw [hL5,if_pos rfl] at hS
  have dZ:=Lib.hid hS
  clear hS hL5 hL u L
  have d0:w1.cell? ⟨w.heap.size,0,none⟩=some (.pointer (some ⟨cb,0,none⟩)):=(Lib.cell_of_heap dZ.out.b0 0).trans rfl
  have hb1:=dZ.out.b1
  rw [jQ.out] at hb1
  obtain ⟨c0,c1,c2,c3,c4,c5,_⟩:=aH hb1
  clear hb1
  go_wp2_with fail
  refine (tH.out w1 dZ.out.co (Nat.le_trans hBw dZ.out.ch.bel.size)).mono ?_
  rintro x w2 ⟨rfl,hg1,hc1⟩
  have Dz:=Lib.hid hg1
  have ou:=Lib.hid (dZ.out.ch.trans hc1)
  clear hg1 hc1
  go_wp2_with fail
  go_end0
  exact ⟨rfl,by have:=Dz.out;rw [List.append_assoc] at this;exact this,ou.out⟩
theorem Le (op:ByteArray) (p:Nat) (a b:Tr) (iha:fF a) (ihb:fF b) (hn0: ¬op=⟨#[110,117,109]⟩) (hn1: ¬op=⟨#[110,97,109,101]⟩) (hn2: ¬op=⟨#[63]⟩) (hn3: ¬op=⟨#[38,38]⟩) (hn4: ¬op=⟨#[124,124]⟩):fF (.bin op p a b):=by
 intro B cb kv l w h hBw dA hlen
 obtain ⟨va,vb,hr,ha,hb⟩:=dA
 have hr':RowOf w (fun k=>k<B) kv 2 (iF (k2 a b) (v2 va vb) 2):=by rw [vS];exact hr
 obtain ⟨g,cap,cur,rfl,hcap,hgB,hg,hcl⟩:=hr'.kid
 have hka: ∀j u,(a.cells va)[j]? =some u→cur[0+j]? =some u:=hcl 0 (by omega)
 have hkb: ∀j u,(b.cells vb)[j]? =some u→cur[6+j]? =some u:=hcl 1 (by omega)
 obtain ⟨pc,hpc⟩: ∃pc:Array Value,pc= #[.string op,.int .i64 0,.string ⟨#[]⟩,.int .i64 p,.int .i64 0,.slice (some ⟨g,0,none⟩) 2 cap]:=⟨_,rfl⟩
 have hco: ∀k,comp (.bin op p a b) k=comp a k++(comp b (k+(comp a k).length)++[mQ op p]):=fun k=>by simp only [comp];rw [if_neg (show¬op=fV from hn3),if_neg (show¬op=jR from hn4)]
 have hcl:(comp (.bin op p a b) 0).length=(comp a 0).length+(comp b 0).length+1:=by rw [hco];simp only [List.length_append,List.length_singleton];rw [aW b _ 0];omega
 have hla:(comp a l.length).length=(comp a 0).length:=aW _ _ _
 have hlb:(comp b (l++comp a l.length).length).length=(comp b 0).length:=aW _ _ _
 have hsum:((l++comp a l.length)++comp b (l++comp a l.length).length).length=l.length+(comp a 0).length+(comp b 0).length:=by rw [List.length_append,hlb,List.length_append,hla]
 rw [hcl] at hlen
 rw [hco]
 obtain ⟨W,hW⟩: ∃W,W=vM w cb pc:=⟨_,rfl⟩
 have nR:Hid (nO B cb w.heap.size (w.heap.size+1) w W #[.pointer (some ⟨cb,0,none⟩)] 187 pc l W):=Lib.hid (by rw [hW];exact jO h hBw pc)
 have dR:Hid (W=(w.alloc (.cells #[.pointer (some ⟨cb,0,none⟩)] 187)).alloc (.cells #[.string op,.int .i64 0,.string ⟨#[]⟩,.int .i64 p,.int .i64 0,.slice (some ⟨g,0,none⟩) 2 cap] 30)):=Lib.hid (by rw [hW,hpc];rfl)
 have jQ:=Lib.hid hpc
 have xq:=Lib.hid hgB
 have xI:=Lib.hid hg
 obtain ⟨_,_,_,_,_,_,hz1⟩:=aH (by have:=nR.out.b1;rw [jQ.out] at this;exact this)
 have Oh:=Lib.hid hka
 have Ud:Hid (∀X,aY B cb (l) X→dS B w X→Calls Tryz.prog 96 #[.pointer (some ⟨cb,0,none⟩),.agg (a.cells va).toArray] X fun x w'=>x= .returned (.tuple #[])∧aY B cb (l++comp a (l).length) w'∧dS B X w'):=Lib.hid (fun X hX hC=>iha B cb va _ X hX (Nat.le_trans hBw hC.bel.size) (ha.kept (fun k hk _=>hC.bel.block k hk) a va) (by omega))
 have HKb:=Lib.hid hkb
 have HIHb:Hid (∀X,aY B cb (l++comp a l.length) X→dS B w X→Calls Tryz.prog 96 #[.pointer (some ⟨cb,0,none⟩),.agg (b.cells vb).toArray] X fun x w'=>x= .returned (.tuple #[])∧aY B cb (l++comp a l.length++comp b (l++comp a l.length).length) w'∧dS B X w'):=Lib.hid (fun X hX hC=>ihb B cb vb _ X hX (Nat.le_trans hBw hC.bel.size) (hb.kept (fun k hk _=>hC.bel.block k hk) b vb) (by rw [List.length_append];omega))
 have tH:Hid (∀X,aY B cb ((l++comp a l.length)++comp b (l++comp a l.length).length) X→B≤X.heap.size→Calls Tryz.prog 124 #[.pointer (some ⟨cb,0,none⟩),.agg (mQ op p:Ins).cells.toArray] X fun x w'=>x= .returned (.int .i64 (((l++comp a l.length)++comp b (l++comp a l.length).length).length:Nat))∧aY B cb ((l++comp a l.length)++comp b (l++comp a l.length).length++[mQ op p]) w'∧dS B X w'):=Lib.hid (fun X hX hB=>gB B cb _ _ X hX hB (by rw [hsum];omega))
 have thn0:=aX hn0
 have thn1:=aX hn1
 have thn2:=aX hn2
 have thn3:=aX hn3
 have thn4:=aX hn4
 clear h hlen hpc hW hr hr' ha hb hka hkb hcl hla hlb hsum hco iha ihb hgB hg hcap hn0 hn1 hn2 hn3 hn4
 have d0:W.cell? ⟨w.heap.size,0,none⟩=some (.pointer (some ⟨cb,0,none⟩)):=(Lib.cell_of_heap nR.out.b0 0).trans rfl
 have hb1:=nR.out.b1
 rw [jQ.out] at hb1
 obtain ⟨c0,c1,c2,c3,c4,c5,_⟩:=aH hb1
 clear hb1
 show Calls Tryz.prog 96 #[.pointer (some ⟨cb,0,none⟩),.agg #[.string op,.int .i64 0,.string ⟨#[]⟩,.int .i64 p,.int .i64 0,.slice (some ⟨g,0,none⟩) 2 cap]] w _
 go_enter Tryz.func96,Tryz.ntmps96
 go_upto_region 4 with fail
 rw [←dR.out]
 go_wp2_with fail
 refine Reg.aJ (fun L u X=>nO B cb w.heap.size (w.heap.size+1) w W #[.pointer (some ⟨cb,0,none⟩)] 187 pc (if L 5=true then l++comp a (l).length else l) X) (fun j=>([some (.pointer (some ⟨cb,0,none⟩)),some (.pointer (some ⟨w.heap.size+1,5,none⟩)),some (.slice (some ⟨g,0,none⟩) 2 cap),some (.pointer (some ⟨g,0,none⟩)),some (.agg (a.cells va).toArray),some (.tuple #[])]:List (Option Value)).getD j none) (by kernel_rfl) (by kernel_rfl) (by kernel_rfl) (by kernel_rfl) ?iY ?rsE ?iW
 case iY=>exact nR.out.drew hBw
 case rsE=>
  refine Reg.au.plain rfl (fun L u T X hL hz hS hk K hK=>?_) ?_
  ·have g2:=hk.old 2 rfl
   have c0:=(Lib.cell_of_heap hS.b0 0).trans rfl
   have hK:=hK _ X hS (fun _ hx=>Option.some.inj hx)
   clear hk hz hL
   go_simp
   exact hK
  refine Reg.au.plain rfl (fun L u T X hL hz hS hk K hK=>?_) ?_
  ·have g3:=hk.old 3 rfl
   have hK:=hK _ X hS (fun _ hx=>Option.some.inj hx)
   clear hk hz hL
   go_simp
   exact hK
  refine Reg.au.plain rfl (fun L u T X hL hz hS hk K hK=>?_) ?_
  ·have g5:=hk.val 1 5 rfl
   have hb1:=hS.b1
   rw [jQ.out] at hb1
   obtain ⟨_,_,_,_,_,c5,_⟩:=aH hb1
   have hK:=hK _ X hS (fun _ hx=>Option.some.inj hx)
   clear hk hz hL hb1
   go_simp
   exact hK
  refine Reg.au.plain rfl (fun L u T X hL hz hS hk K hK=>?_) ?_
  ·have g6:=hk.val 2 6 rfl
   have hK:=hK _ X hS (fun _ hx=>Option.some.inj hx)
   clear hk hz hL
   go_simp
   exact hK
  refine Reg.au.plain rfl (fun L u T X hL hz hS hk K hK=>?_) ?_
  ·have g7:=hk.val 3 7 rfl
   refine bW 30 _ rfl g 0 (by simp [Act.eval,g7]) _ cur (a.cells va) (0,0) _ ((hS.ch.bel.block g xq.out).trans xI.out) (Oh.out) Tryz.underlying30 rfl (by rw [Tr.aT];exact dM) ?_
   exact hK _ X hS (fun _ hx=>Option.some.inj hx)
  refine Reg.au.plain rfl (fun L u T X hL hz hS hk K hK=>?_) ?_
  ·have g4:=hk.val 0 4 rfl
   have g8:=hk.val 4 8 rfl
   have hco:=hS.co
   rw [hL,if_neg (by decide)] at hco
   have hC:=Ud.out X hco hS.ch
   clear hk hz
   go_simp
   refine hC.mono ?_
   rintro x w' ⟨rfl,hg',hc'⟩
   refine hK _ w' ?_ (fun _ hx=>Option.some.inj hx)
   rw [Reg.upd_same,if_pos rfl]
   rw [hL,if_neg (by decide)] at hS
   exact hS.step hg' hc' (by decide) (by decide)
  exact Reg.au.nil
 case iW=>
  intro L u w1 hL hS hI
  have e0:=hI 0 (by decide) _ rfl
  have e1:=hI 1 (by decide) _ rfl
  have e2:=hI 2 (by decide) _ rfl
  have e3:=hI 3 (by decide) _ rfl
  have e4:=hI 4 (by decide) _ rfl
  have e5:=hI 5 (by decide) _ rfl
  clear hI
  simp only [Reg.aK,Act.put,List.setIfInBounds_toArray,List.set_cons_succ,List.set_cons_zero,Nat.zero_add,Nat.reduceAdd,e0,e1,e2,e3,e4,e5]
  clear e0 e1 e2 e3 e4 e5
  have hL5:=hL 5 (by decide)
  rw [hL5,if_pos rfl] at hS
  have HSb:=Lib.hid hS
  clear hS hL5 hL u L
  have d0:w1.cell? ⟨w.heap.size,0,none⟩=some (.pointer (some ⟨cb,0,none⟩)):=(Lib.cell_of_heap HSb.out.b0 0).trans rfl
  have hb1:=HSb.out.b1
  rw [jQ.out] at hb1
  obtain ⟨c0,c1,c2,c3,c4,c5,_⟩:=aH hb1
  clear hb1
  go_wp2_with fail
  refine Reg.aJ (fun L u X=>nO B cb w.heap.size (w.heap.size+1) w W #[.pointer (some ⟨cb,0,none⟩)] 187 pc (if L 5=true then l++comp a l.length++comp b (l++comp a l.length).length else l++comp a l.length) X) (fun j=>([some (.pointer (some ⟨cb,0,none⟩)),some (.pointer (some ⟨w.heap.size+1,5,none⟩)),some (.slice (some ⟨g,0,none⟩) 2 cap),some (.pointer (some ⟨g,6,none⟩)),some (.agg (b.cells vb).toArray),some (.tuple #[])]:List (Option Value)).getD j none) (by kernel_rfl) (by kernel_rfl) (by kernel_rfl) (by kernel_rfl) ?iY ?rsE ?iW
  case iY=>exact HSb.out.drew hBw
  case rsE=>
   refine Reg.au.plain rfl (fun L u T X hL hz hS hk K hK=>?_) ?_
   ·have g2:=hk.old 2 rfl
    have c0:=(Lib.cell_of_heap hS.b0 0).trans rfl
    have hK:=hK _ X hS (fun _ hx=>Option.some.inj hx)
    clear hk hz hL
    go_simp
    exact hK
   refine Reg.au.plain rfl (fun L u T X hL hz hS hk K hK=>?_) ?_
   ·have g3:=hk.old 3 rfl
    have hK:=hK _ X hS (fun _ hx=>Option.some.inj hx)
    clear hk hz hL
    go_simp
    exact hK
   refine Reg.au.plain rfl (fun L u T X hL hz hS hk K hK=>?_) ?_
   ·have g11:=hk.val 1 11 rfl
    have hb1:=hS.b1
    rw [jQ.out] at hb1
    obtain ⟨_,_,_,_,_,c5,_⟩:=aH hb1
    have hK:=hK _ X hS (fun _ hx=>Option.some.inj hx)
    clear hk hz hL hb1
    go_simp
    exact hK
   refine Reg.au.plain rfl (fun L u T X hL hz hS hk K hK=>?_) ?_
   ·have g12:=hk.val 2 12 rfl
    have hK:=hK _ X hS (fun _ hx=>Option.some.inj hx)
    clear hk hz hL
    go_simp
    exact hK
   refine Reg.au.plain rfl (fun L u T X hL hz hS hk K hK=>?_) ?_
   ·have g13:=hk.val 3 13 rfl
    refine bW 30 _ rfl g 6 (by simp [Act.eval,g13]) _ cur (b.cells vb) (0,0) _ ((hS.ch.bel.block g xq.out).trans xI.out) (HKb.out) Tryz.underlying30 rfl (by rw [Tr.aT];exact dM) ?_
    exact hK _ X hS (fun _ hx=>Option.some.inj hx)
   refine Reg.au.plain rfl (fun L u T X hL hz hS hk K hK=>?_) ?_
   ·have g10:=hk.val 0 10 rfl
    have g14:=hk.val 4 14 rfl
    have hco:=hS.co
    rw [hL,if_neg (by decide)] at hco
    have hC:=HIHb.out X hco hS.ch
    clear hk hz
    go_simp
    refine hC.mono ?_
    rintro x w' ⟨rfl,hg',hc'⟩
    refine hK _ w' ?_ (fun _ hx=>Option.some.inj hx)
    rw [Reg.upd_same,if_pos rfl]
    rw [hL,if_neg (by decide)] at hS
    exact hS.step hg' hc' (by decide) (by decide)
   exact Reg.au.nil
  case iW=>
   intro L u w2 hL hS hI
   have e0:=hI 0 (by decide) _ rfl
   have e1:=hI 1 (by decide) _ rfl
   have e2:=hI 2 (by decide) _ rfl
   have e3:=hI 3 (by decide) _ rfl
   have e4:=hI 4 (by decide) _ rfl
   have e5:=hI 5 (by decide) _ rfl
   clear hI
   simp only [Reg.aK,Act.put,List.setIfInBounds_toArray,List.set_cons_succ,List.set_cons_zero,Nat.zero_add,Nat.reduceAdd,e0,e1,e2,e3,e4,e5]
   clear e0 e1 e2 e3 e4 e5
   have hL5:=hL 5 (by decide)
   rw [hL5,if_pos rfl] at hS
   have HS2:=Lib.hid hS
   clear hS hL5 hL u L
   have d0:w2.cell? ⟨w.heap.size,0,none⟩=some (.pointer (some ⟨cb,0,none⟩)):=(Lib.cell_of_heap HS2.out.b0 0).trans rfl
   have hb1:=HS2.out.b1
   rw [jQ.out] at hb1
   obtain ⟨c0,c1,c2,c3,c4,c5,_⟩:=aH hb1
   clear hb1
   go_wp2_with fail
   refine (tH.out w2 HS2.out.co (Nat.le_trans hBw HS2.out.ch.bel.size)).mono ?_
   rintro x w3 ⟨rfl,hg1,hc1⟩
   have Dz:=Lib.hid hg1
   have ou:=Lib.hid (HS2.out.ch.trans hc1)
   clear hg1 hc1
   go_wp2_with fail
   go_end0
   exact ⟨rfl,by have:=Dz.out;rw [List.append_assoc,List.append_assoc,List.length_append] at this;exact this,ou.out⟩
theorem OB:(⟨#[]⟩:ByteArray).toList.isEmpty=true:=by simp [ByteArray.toList_eq]
theorem BA {s:ByteArray} (h: ¬s=ak):s.toList.isEmpty=false:=by
 have:=aX (s:=s) (l:=[]) h
 cases hs:s.toList with
 | nil=>rw [hs] at this;exact absurd this (by decide)
 | cons x l=>rfl
theorem II (op s:ByteArray) (p q:Nat) (t:Tr) (Jk:fF t) (hop:op.size≤100) (hx:bF op=ak) (B cb:Nat) (kv:Value) (l:List Ins) (w:World) (h:aY B cb l w) (hBw:B≤w.heap.size) (dA:(Tr.eF op s p q t).Lay w (fun k=>k<B) kv)
  (hlen:l.length+(comp (.eF op s p q t) 0).length≤1000000):
  Calls Tryz.prog 125 #[.pointer (some ⟨cb,0,none⟩),(Tr.eF op s p q t).v kv] w fun x w'=>x= .returned (.tuple #[])∧aY B cb (l++comp (.eF op s p q t) l.length) w'∧dS B w w':=by
 obtain ⟨vt,hr,ht⟩:=dA
 have hr':RowOf w (fun k=>k<B) kv 1 (iF (k1 t) (v1 vt) 1):=by rw [qF];exact hr
 obtain ⟨g,cap,cur,rfl,hcap,hgB,hg,hcl⟩:=hr'.kid
 have hkt: ∀j u,(t.cells vt)[j]? =some u→cur[0+j]? =some u:=hcl 0 (by omega)
 obtain ⟨pc,hpc⟩: ∃pc:Array Value,pc= #[.string op,.int .i64 0,.string s,.int .i64 p,.int .i64 q,.slice (some ⟨g,0,none⟩) 1 cap]:=⟨_,rfl⟩
 have hco:comp (.eF op s p q t) l.length=comp t l.length++[jC s]:=by simp only [comp];rw [if_pos hx]
 have hcl:(comp (.eF op s p q t) 0).length=(comp t 0).length+1:=by simp only [comp];rw [if_pos hx];simp
 have hla:(comp t l.length).length=(comp t 0).length:=aW _ _ _
 have hsum:(l++comp t l.length).length=l.length+(comp t 0).length:=by rw [List.length_append,hla]
 rw [hcl] at hlen
 rw [hco]
 have vH:=Lib.hid hco
 obtain ⟨W,hW⟩: ∃W,W=w.alloc (.cells pc 30):=⟨_,rfl⟩
 have fD:Hid (nO B cb w.heap.size w.heap.size w W pc 30 pc l W):=Lib.hid (by rw [hW];exact sH h hBw pc)
 have dR:Hid (W=w.alloc (.cells #[.string op,.int .i64 0,.string s,.int .i64 p,.int .i64 q,.slice (some ⟨g,0,none⟩) 1 cap] 30)):=Lib.hid (by rw [hW,hpc])
 have jQ:=Lib.hid hpc
 have xI:Hid (∀X,dS B w X→X.heap[g]? =some (.cells cur 30 (0,0))):=Lib.hid (fun X hX=>(hX.bel.block g hgB).trans hg)
 have HKt:=Lib.hid hkt
 have Qq:Hid (∀W,Calls Tryz.prog 164 #[.string op,.string ⟨#[61]⟩] W fun e w'=>e= .returned (.string (bF op))∧w'=W):=Lib.hid (fun W=>Tryz.strings_TrimSuffix op ⟨#[61]⟩ W (by omega))
 have Uc:Hid (∀X,aY B cb (l) X→dS B w X→Calls Tryz.prog 96 #[.pointer (some ⟨cb,0,none⟩),.agg (t.cells vt).toArray] X fun x w'=>x= .returned (.tuple #[])∧aY B cb (l++comp t (l).length) w'∧dS B X w'):=Lib.hid (fun X hX hC=>Jk B cb vt _ X hX (Nat.le_trans hBw hC.bel.size) (ht.kept (fun k hk _=>hC.bel.block k hk) t vt) (by omega))
 have tH:Hid (∀X,aY B cb (l++comp t l.length) X→B≤X.heap.size→Calls Tryz.prog 124 #[.pointer (some ⟨cb,0,none⟩),.agg (jC s:Ins).cells.toArray] X fun x w'=>x= .returned (.int .i64 ((l++comp t l.length).length:Nat))∧aY B cb (l++comp t l.length++[jC s]) w'∧dS B X w'):=Lib.hid (fun X hX hB=>gB B cb _ _ X hX hB (by rw [hsum];omega))
 have HX:Hid (bF op=⟨#[]⟩):=Lib.hid hx
 have hte:=OB
 clear h hlen hpc hW hr hr' ht hkt hcl hla hsum hco Jk hgB hg hcap hop hx vH
 have hb1:=fD.out.b1
 rw [jQ.out] at hb1
 obtain ⟨c0,c1,c2,c3,c4,c5,hz1⟩:=aH hb1
 clear hb1
 show Calls Tryz.prog 125 #[.pointer (some ⟨cb,0,none⟩),.agg #[.string op,.int .i64 0,.string s,.int .i64 p,.int .i64 q,.slice (some ⟨g,0,none⟩) 1 cap]] w _
 go_enter Tryz.func125,Tryz.ntmps125
 go_upto_region 1 with fail
 rw [←dR.out]
 go_wp2_with fail
 refine (Qq.out W).mono ?_
 rintro x w0 ⟨rfl,rfl⟩
 rw [HX.out]
 go_wp2_with (refine jE rfl 30 _ rfl g 0 rfl 30 cur (t.cells vt) (0,0) _ (xI.out _ fD.out.ch) HKt.out Tryz.underlying30 rfl (by rw [Tr.aT];exact dM) ?_)
 refine (Uc.out _ fD.out.co fD.out.ch).mono ?_
 rintro x w1 ⟨rfl,hg1,hc1⟩
 have dZ:=Lib.hid (fD.out.step hg1 hc1 (by decide) (by decide))
 clear hg1 hc1 c0 c1 c2 c3 c4 c5 hz1
 have hb1:=dZ.out.b1
 rw [jQ.out] at hb1
 obtain ⟨c0,c1,c2,c3,c4,c5,hz1⟩:=aH hb1
 clear hb1
 go_wp2_with fail
 refine (tH.out _ dZ.out.co (Nat.le_trans hBw dZ.out.ch.bel.size)).mono ?_
 rintro x w2 ⟨rfl,hg2,hc2⟩
 have HG2:=Lib.hid hg2
 have HC2:=Lib.hid (dZ.out.ch.trans hc2)
 clear hg2 hc2
 go_wp2_with fail
 go_end0
 exact ⟨rfl,by have:=HG2.out;rw [List.append_assoc] at this;exact this,HC2.out⟩
theorem IG (op s:ByteArray) (p q:Nat) (t:Tr) (Jk:fF t) (hop:op.size≤100) (hx: ¬bF op=ak) (B cb:Nat) (kv:Value) (l:List Ins) (w:World) (h:aY B cb l w) (hBw:B≤w.heap.size) (dA:(Tr.eF op s p q t).Lay w (fun k=>k<B) kv)
  (hlen:l.length+(comp (.eF op s p q t) 0).length≤1000000):
  Calls Tryz.prog 125 #[.pointer (some ⟨cb,0,none⟩),(Tr.eF op s p q t).v kv] w fun x w'=>x= .returned (.tuple #[])∧aY B cb (l++comp (.eF op s p q t) l.length) w'∧dS B w w':=by
 obtain ⟨vt,hr,ht⟩:=dA
 have hr':RowOf w (fun k=>k<B) kv 1 (iF (k1 t) (v1 vt) 1):=by rw [qF];exact hr
 obtain ⟨g,cap,cur,rfl,hcap,hgB,hg,hcl⟩:=hr'.kid
 have hkt: ∀j u,(t.cells vt)[j]? =some u→cur[0+j]? =some u:=hcl 0 (by omega)
 obtain ⟨pc,hpc⟩: ∃pc:Array Value,pc= #[.string op,.int .i64 0,.string s,.int .i64 p,.int .i64 q,.slice (some ⟨g,0,none⟩) 1 cap]:=⟨_,rfl⟩
 have hco:comp (.eF op s p q t) l.length=dU s p::(comp t (l.length+1)++[mQ (bF op) q,jC s]):=by simp only [comp];rw [if_neg hx]
 have hcl:(comp (.eF op s p q t) 0).length=1+(comp t 0).length+2:=by simp only [comp];rw [if_neg hx];simp only [List.length_cons,List.length_append,List.length_nil];rw [aW t _ 0];omega
 have hl1:(l++[dU s p]).length=l.length+1:=by simp
 have hla:(comp t (l++[dU s p]).length).length=(comp t 0).length:=aW _ _ _
 have hsum:((l++[dU s p])++comp t (l++[dU s p]).length).length=l.length+1+(comp t 0).length:=by rw [List.length_append,hla,hl1]
 have Rj:(((l++[dU s p])++comp t (l++[dU s p]).length)++[mQ (bF op) q]).length=l.length+2+(comp t 0).length:=by rw [List.length_append,hsum];simp only [List.length_singleton];omega
 rw [hcl] at hlen
 rw [hco]
 have vH:=Lib.hid hco
 obtain ⟨W,hW⟩: ∃W,W=w.alloc (.cells pc 30):=⟨_,rfl⟩
 have fD:Hid (nO B cb w.heap.size w.heap.size w W pc 30 pc l W):=Lib.hid (by rw [hW];exact sH h hBw pc)
 have dR:Hid (W=w.alloc (.cells #[.string op,.int .i64 0,.string s,.int .i64 p,.int .i64 q,.slice (some ⟨g,0,none⟩) 1 cap] 30)):=Lib.hid (by rw [hW,hpc])
 have jQ:=Lib.hid hpc
 have xI:Hid (∀X,dS B w X→X.heap[g]? =some (.cells cur 30 (0,0))):=Lib.hid (fun X hX=>(hX.bel.block g hgB).trans hg)
 have HKt:=Lib.hid hkt
 have Qq:Hid (∀W,Calls Tryz.prog 164 #[.string op,.string ⟨#[61]⟩] W fun e w'=>e= .returned (.string (bF op))∧w'=W):=Lib.hid (fun W=>Tryz.strings_TrimSuffix op ⟨#[61]⟩ W (by omega))
 have Uc:Hid (∀X,aY B cb (l++[dU s p]) X→dS B w X→Calls Tryz.prog 96 #[.pointer (some ⟨cb,0,none⟩),.agg (t.cells vt).toArray] X fun x w'=>x= .returned (.tuple #[])∧aY B cb (l++[dU s p]++comp t (l++[dU s p]).length) w'∧dS B X w'):=Lib.hid (fun X hX hC=>Jk B cb vt _ X hX (Nat.le_trans hBw hC.bel.size) (ht.kept (fun k hk _=>hC.bel.block k hk) t vt) (by rw [hl1];omega))
 have HPU0:Hid (∀X,aY B cb (l) X→B≤X.heap.size→Calls Tryz.prog 124 #[.pointer (some ⟨cb,0,none⟩),.agg (dU s p:Ins).cells.toArray] X fun x w'=>x= .returned (.int .i64 ((l).length:Nat))∧aY B cb (l++[dU s p]) w'∧dS B X w'):=Lib.hid (fun X hX hB=>gB B cb _ _ X hX hB (by omega))
 have tH:Hid (∀X,aY B cb ((l++[dU s p])++comp t (l++[dU s p]).length) X→B≤X.heap.size→Calls Tryz.prog 124 #[.pointer (some ⟨cb,0,none⟩),.agg (mQ (bF op) q:Ins).cells.toArray] X fun x w'=>x= .returned (.int .i64 (((l++[dU s p])++comp t (l++[dU s p]).length).length:Nat))∧aY B cb ((l++[dU s p])++comp t (l++[dU s p]).length++[mQ (bF op) q]) w'∧dS B X w'):=Lib.hid (fun X hX hB=>gB B cb _ _ X hX hB (by rw [hsum];omega))
 have TV:Hid (∀X,aY B cb (((l++[dU s p])++comp t (l++[dU s p]).length)++[mQ (bF op) q]) X→B≤X.heap.size→Calls Tryz.prog 124 #[.pointer (some ⟨cb,0,none⟩),.agg (jC s:Ins).cells.toArray] X fun x w'=>x= .returned (.int .i64 ((((l++[dU s p])++comp t (l++[dU s p]).length)++[mQ (bF op) q]).length:Nat))∧aY B cb (((l++[dU s p])++comp t (l++[dU s p]).length)++[mQ (bF op) q]++[jC s]) w'∧dS B X w'):=Lib.hid (fun X hX hB=>gB B cb _ _ X hX hB (by rw [Rj];omega))
 have hte:=BA hx
 have WZ:=Lib.hid hl1
 clear h hlen hpc hW hr hr' ht hkt hcl hla hsum Rj hl1 hco Jk hgB hg hcap hop hx vH
 generalize bF op=y at*
 have hb1:=fD.out.b1
 rw [jQ.out] at hb1
 obtain ⟨c0,c1,c2,c3,c4,c5,hz1⟩:=aH hb1
 clear hb1
 show Calls Tryz.prog 125 #[.pointer (some ⟨cb,0,none⟩),.agg #[.string op,.int .i64 0,.string s,.int .i64 p,.int .i64 q,.slice (some ⟨g,0,none⟩) 1 cap]] w _
 go_enter Tryz.func125,Tryz.ntmps125
 go_upto_region 1 with fail
 rw [←dR.out]
 go_wp2_with fail
 refine (Qq.out W).mono ?_
 rintro x w0 ⟨rfl,rfl⟩
 go_wp2_with fail
 refine (HPU0.out _ fD.out.co (Nat.le_trans hBw fD.out.ch.bel.size)).mono ?_
 rintro x w1 ⟨rfl,hg1,hc1⟩
 have dZ:=Lib.hid (fD.out.step hg1 hc1 (by decide) (by decide))
 clear hg1 hc1 c0 c1 c2 c3 c4 c5 hz1
 have hb1:=dZ.out.b1
 rw [jQ.out] at hb1
 obtain ⟨c0,c1,c2,c3,c4,c5,hz1⟩:=aH hb1
 clear hb1
 go_wp2_with (refine jE rfl 30 _ rfl g 0 rfl 30 cur (t.cells vt) (0,0) _ (xI.out _ dZ.out.ch) HKt.out Tryz.underlying30 rfl (by rw [Tr.aT];exact dM) ?_)
 refine (Uc.out _ dZ.out.co dZ.out.ch).mono ?_
 rintro x w2 ⟨rfl,hg1,hc1⟩
 have HS2:=Lib.hid (dZ.out.step hg1 hc1 (by decide) (by decide))
 clear hg1 hc1 c0 c1 c2 c3 c4 c5 hz1
 have hb1:=HS2.out.b1
 rw [jQ.out] at hb1
 obtain ⟨c0,c1,c2,c3,c4,c5,hz1⟩:=aH hb1
 clear hb1
 go_wp2_with fail
 refine (tH.out _ HS2.out.co (Nat.le_trans hBw HS2.out.ch.bel.size)).mono ?_
 rintro x w3 ⟨rfl,hg1,hc1⟩
 have yE:=Lib.hid (HS2.out.step hg1 hc1 (by decide) (by decide))
 clear hg1 hc1 c0 c1 c2 c3 c4 c5 hz1
 have hb1:=yE.out.b1
 rw [jQ.out] at hb1
 obtain ⟨c0,c1,c2,c3,c4,c5,hz1⟩:=aH hb1
 clear hb1
 go_wp2_with fail
 refine (TV.out _ yE.out.co (Nat.le_trans hBw yE.out.ch.bel.size)).mono ?_
 rintro x w4 ⟨rfl,hg2,hc2⟩
 have HG2:=Lib.hid hg2
 have HC2:=Lib.hid (yE.out.ch.trans hc2)
 clear hg2 hc2
 go_wp2_with fail
 go_end0
 exact ⟨rfl,by have:=HG2.out;rw [WZ.out] at this;simpa using this,HC2.out⟩
theorem Lh (op s:ByteArray) (p q:Nat) (t:Tr) (Jk:fF t) (hop:op.size≤100) (hs: ¬s=ak) (hn0: ¬op=⟨#[110,117,109]⟩) (hn1: ¬op=⟨#[110,97,109,101]⟩):fF (.eF op s p q t):=by
 intro B cb kv l w h hBw dA hlen
 have HAS:Hid (∀X,aY B cb l X→dS B w X→Calls Tryz.prog 125 #[.pointer (some ⟨cb,0,none⟩),(Tr.eF op s p q t).v kv] X fun x w'=>x= .returned (.tuple #[])∧aY B cb (l++comp (.eF op s p q t) l.length) w'∧dS B X w'):=Lib.hid (fun X hX hC=>by
  have hl:=dA.kept (fun k hk _=>hC.bel.block k hk) _ kv
  by_cases hx:bF op=ak
  ·exact II op s p q t Jk hop hx B cb kv l X hX (Nat.le_trans hBw hC.bel.size) hl hlen
  ·exact IG op s p q t Jk hop hx B cb kv l X hX (Nat.le_trans hBw hC.bel.size) hl hlen)
 obtain ⟨ko,km,kc,rfl⟩:=dA.shape
 obtain ⟨pc,hpc⟩: ∃pc:Array Value,pc= #[.string op,.int .i64 0,.string s,.int .i64 p,.int .i64 q,.slice ko km kc]:=⟨_,rfl⟩
 obtain ⟨W,hW⟩: ∃W,W=vM w cb pc:=⟨_,rfl⟩
 have fD:Hid (nO B cb w.heap.size (w.heap.size+1) w W #[.pointer (some ⟨cb,0,none⟩)] 187 pc l W):=Lib.hid (by rw [hW];exact jO h hBw pc)
 have dR:Hid (W=(w.alloc (.cells #[.pointer (some ⟨cb,0,none⟩)] 187)).alloc (.cells #[.string op,.int .i64 0,.string s,.int .i64 p,.int .i64 q,.slice ko km kc] 30)):=Lib.hid (by rw [hW,hpc];rfl)
 have jQ:=Lib.hid hpc
 have tn0:=aX hn0
 have tn1:=aX hn1
 have ts:=BA hs
 clear h hlen hpc hW dA Jk hop hs hn0 hn1
 have d0:W.cell? ⟨w.heap.size,0,none⟩=some (.pointer (some ⟨cb,0,none⟩)):=(Lib.cell_of_heap fD.out.b0 0).trans rfl
 have hb1:=fD.out.b1
 rw [jQ.out] at hb1
 obtain ⟨c0,c1,c2,c3,c4,c5,hz1⟩:=aH hb1
 clear hb1
 show Calls Tryz.prog 96 #[.pointer (some ⟨cb,0,none⟩),.agg #[.string op,.int .i64 0,.string s,.int .i64 p,.int .i64 q,.slice ko km kc]] w _
 go_enter Tryz.func96,Tryz.ntmps96
 go_upto_region 4 with fail
 rw [←dR.out]
 go_wp2_with fail
 refine (HAS.out _ fD.out.co fD.out.ch).mono ?_
 rintro x w1 ⟨rfl,hg1,hc1⟩
 have Dz:=Lib.hid hg1
 have ou:=Lib.hid (fD.out.ch.trans hc1)
 clear hg1 hc1
 go_wp2_with fail
 go_end0
 exact ⟨rfl,Dz.out,ou.out⟩
end Go.Proofs.YtacfglopionkfaaGreatDoor
