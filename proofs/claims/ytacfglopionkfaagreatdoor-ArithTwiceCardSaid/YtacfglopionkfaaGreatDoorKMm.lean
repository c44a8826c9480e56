import Derived.Test.YtacfglopionkfaaGreatDoorKLi
import Derived.Test.YtacfglopionkfaaGreatDoorKPu
namespace Go.Proofs.YtacfglopionkfaaGreatDoor
open Go.RowKit
theorem aV {w:World} {g:Nat} {o:Obj} (h:w.heap[g]? =some o):g<w.heap.size:=by
 rcases Nat.lt_or_ge g w.heap.size with h' | h'
 ·exact h'
 ·rw [Array.getElem?_eq_none h'] at h;cases h
theorem dN (w:World) (o:Obj):(w.alloc o).heap[w.heap.size]? =some o:=by
 show (w.heap.push _)[w.heap.size]? =_
 simp
theorem EK (X:World) (b i:Nat) (y:Value):X.grownBy (X.setCell ⟨b,i,none⟩ y) (some b):=
 ⟨rfl,rfl,rfl,by simp,fun k _ hne=>Below.heap_setCell _ _ _ _ (by simpa using hne)⟩
theorem vC {X:World} {B:Nat} {e T:TypeId} {s:Nat} {v:Value} {n:Nat} {xs:List Value} {b:Nat} {cs:Array Value} {fr:Nat × Nat} (hown:X.ownsRow B e s v n xs) (hb:X.heap[b]? =some (.cells cs T fr)) (hT:T≠e):v.ownBlock≠some b:=by
 intro he
 rcases hown.2 with ⟨rfl,_⟩ | ⟨g,cap,cur,rfl,_,hg,_⟩
 ·cases he
 ·simp only [Value.ownBlock,Option.some.injEq] at he
  subst he
  rw [hb] at hg
  simp only [Option.some.injEq,Obj.cells.injEq] at hg
  exact hT hg.2.1
theorem BM {X:World} {B:Nat} {e T:TypeId} {s:Nat} {v:Value} {n:Nat} {xs:List Value} {b:Nat} {cs:Array Value} {fr:Nat × Nat} (hown:X.ownsRow B e s v n xs) (hb:X.heap[b]? =some (.cells cs T fr)) (hT:T≠e) (i:Nat) (y:Value):
  (X.setCell ⟨b,i,none⟩ y).ownsRow B e s v n xs:=hown.kept (EK X b i y) (Or.inr (vC hown hb hT))
theorem fO {X:World} {k:Nat} {o:Obj} (h:X.heap[k]? =some o) (o':Obj):(X.alloc o').heap[k]? =some o:=(Below.heap_alloc _ _ _ (aV h)).trans h
theorem jg {X X':World} {k:Nat} {o:Obj} (h:X.heap[k]? =some o) (hb:Below X.heap.size X X'):X'.heap[k]? =some o:=(hb.block k (aV h)).trans h
theorem nI {X X':World} {k:Nat} {o:Obj} {r:Option Nat} (h:X.heap[k]? =some o) (hg:X.grownBy X' r) (hne:r≠some k):X'.heap[k]? =some o:=(hg.block k (aV h) (fun e=>hne e.symm)).trans h
theorem wI {X:World} {b:Nat} {v y:Value} {T:TypeId} (h:X.heap[b]? =some (.cells #[v] T (0,0))):(X.setCell ⟨b,0,none⟩ y).heap[b]? =some (.cells #[y] T (0,0)):=by
 show (X.heap.modify b _)[b]? =_
 rw [Array.getElem?_modify,if_pos rfl,h]
 rfl
theorem bU {X:World} {b:Nat} {v:Value} {T:TypeId} (h:X.heap[b]? =some (.cells #[v] T (0,0))):X.cell? ⟨b,0,none⟩=some v∧X.frozen? ⟨b,0,none⟩=false∧b<X.heap.size:=
 ⟨by rw [Lib.cell_of_heap h];rfl,Lib.frozen_of_heap h 0,aV h⟩
theorem aH {X:World} {b:Nat} {a0 a1 a2 a3 a4 a5:Value} {T:TypeId} (h:X.heap[b]? =some (.cells #[a0,a1,a2,a3,a4,a5] T (0,0))):
  X.cell? ⟨b,0,none⟩=some a0∧X.cell? ⟨b,1,none⟩=some a1∧X.cell? ⟨b,2,none⟩=some a2∧X.cell? ⟨b,3,none⟩=some a3∧X.cell? ⟨b,4,none⟩=some a4∧X.cell? ⟨b,5,none⟩=some a5∧b<X.heap.size:=
 ⟨by rw [Lib.cell_of_heap h];rfl,by rw [Lib.cell_of_heap h];rfl,by rw [Lib.cell_of_heap h];rfl,by rw [Lib.cell_of_heap h];rfl,by rw [Lib.cell_of_heap h];rfl,by rw [Lib.cell_of_heap h];rfl,aV h⟩
theorem dW {w:World} {base:Nat} {e:TypeId} {s:Nat} {v:Value} {n:Nat} {xs:List Value} (h:w.ownsRow base e s v n xs): ∃a0 cap,v= .slice a0 n cap:=by
 obtain ⟨h1,⟨rfl,rfl⟩ | ⟨g,cap,cur,rfl,_⟩⟩:=h
 ·exact ⟨none,0,rfl⟩
 ·exact ⟨_,cap,rfl⟩
def jL:List Ins→List Value
 | []=>[]
 | i::l=>i.cells++jL l
theorem Ins.aT (i:Ins):i.cells.length=6:=rfl
theorem yQ: ∀(l:List Ins) (i:Ins),jL (l++[i])=jL l++i.cells
 | [],i=>by show i.cells++[]=[]++i.cells;simp
 | j::l,i=>by show j.cells++jL (l++[i])=(j.cells++jL l)++i.cells;rw [yQ l i,List.append_assoc]
theorem BJ: ∀l:List Ins,(jL l).length=l.length*6
 | []=>rfl
 | i::l=>by show (i.cells++jL l).length=(l.length+1)*6;rw [List.length_append,Ins.aT,BJ l];omega
theorem FK: ∀(l:List Ins) (k:Nat) (i:Ins),l[k]? =some i→ ∀j,j<6→(jL l)[k*6+j]? =i.cells[j]?
 | [],_,_,h,_,_=>by simp at h
 | t::l,0,i,h,j,hj=>by
  have e:t=i:=Option.some.inj h
  subst e
  show (t.cells++jL l)[0*6+j]? =_
  rw [Nat.zero_mul,Nat.zero_add,List.getElem?_append_left (by rw [Ins.aT];exact hj)]
 | t::l,k+1,i,h,j,hj=>by
  show (t.cells++jL l)[(k+1)*6+j]? =_
  rw [List.getElem?_append_right (by rw [Ins.aT];omega),Ins.aT,show (k+1)*6+j - 6=k*6+j by omega]
  exact FK l k i (by simpa using h) j hj
def Ins.goes (i:Ins) (tg:Nat):Ins:=⟨i.k,i.n,i.nm,i.op,i.p,tg⟩
theorem FI: ∀(l:List Ins) (k:Nat) (i:Ins) (tg:Nat),l[k]? =some i→jL (l.set k (i.goes tg))=(jL l).set (k*6+5) (.int .i64 (tg:Nat))
 | [],_,_,_,h=>by simp at h
 | t::l,0,i,tg,h=>by
  have e:t=i:=Option.some.inj h
  subst e
  show (t.goes tg).cells++jL l=(t.cells++jL l).set (0*6+5) _
  rw [List.set_append_left _ _ (by rw [Ins.aT];decide)]
  rfl
 | t::l,k+1,i,tg,h=>by
  show t.cells++jL (l.set k _)=(t.cells++jL l).set ((k+1)*6+5) _
  rw [FI l k i tg (by simpa using h),List.set_append_right _ _ (by rw [Ins.aT];omega),Ins.aT,show (k+1)*6+5 - 6=k*6+5 by omega]
theorem Ins.one (i:Ins): ∀u∈i.cells,u.oneCell'=true:=by
 intro u hu
 unfold Ins.cells at hu
 simp only [List.mem_cons,List.not_mem_nil,or_false] at hu
 rcases hu with rfl | rfl | rfl | rfl | rfl | rfl<;>rfl
theorem Ih: ∃i z,Tryz.prog.info? 156=some i∧i.zero=some z∧i.size=6∧i.bytes=64∧z.cells.size=6:=by
 have h:(Tryz.prog.info? 156).map (fun i=>(i.zero.map (·.cells.size),i.size,i.bytes))=some (some 6,6,64):=by kernel_rfl
 obtain ⟨i,hi,hzz⟩:=Option.map_eq_some_iff.1 h
 simp only [Prod.mk.injEq] at hzz
 obtain ⟨z,hz,hs⟩:=Option.map_eq_some_iff.1 hzz.1
 exact ⟨i,z,hi,hz,hzz.2.1,hzz.2.2,hs⟩
theorem dM:(Tryz.prog.info? 30).map (·.size)=some 6:=by kernel_rfl
structure aY (B cb:Nat) (l:List Ins) (w:World):Prop where
 lo:B≤cb
 row: ∃v,w.heap[cb]? =some (.cells #[v] 154 (0,0))∧w.ownsRow B 156 6 v l.length (jL l)
structure dS (B:Nat) (w w':World):Prop where
 bel:Below B w w'
 oth: ∀(i:Nat) (cs:Array Value) (T:TypeId) (z:Nat × Nat),T≠154→T≠156→w.heap[i]? =some (.cells cs T z)→w'.heap[i]? =w.heap[i]?
theorem aY.below {B cb:Nat} {l:List Ins} {w w':World} (h:aY B cb l w) (hb:Below w.heap.size w w'):aY B cb l w':=by
 obtain ⟨h0,v,h1,h2⟩:=h
 exact ⟨h0,v,jg h1 hb,uJ h2 hb⟩
theorem dS.refl (B:Nat) (w:World):dS B w w:=⟨Below.refl _ _,fun _ _ _ _ _ _ _=>rfl⟩
theorem dS.trans {B:Nat} {a b c:World} (h:dS B a b) (k:dS B b c):dS B a c:=
 ⟨h.bel.trans k.bel,fun i cs T z h1 h2 h3=>(k.oth i cs T z h1 h2 ((h.oth i cs T z h1 h2 h3).trans h3)).trans (h.oth i cs T z h1 h2 h3)⟩
theorem dS.below {B:Nat} {w w':World} (h:Below w.heap.size w w') (hB:B≤w.heap.size):dS B w w':=
 ⟨h.mono hB,fun i _ _ _ _ _ h3=>h.block i (aV h3)⟩
theorem dS.alloc {B:Nat} {w w':World} (h:dS B w w') (hB:B≤w.heap.size) (o:Obj):dS B w (w'.alloc o):=
 h.trans (dS.below ((Below.refl _ _).alloc (Nat.le_refl _) _) (Nat.le_trans hB h.bel.size))
theorem dS.grown {B:Nat} {w w' w2:World} {v:Value} {n s:Nat} {xs:List Value} (h:dS B w w') (hB:B≤w.heap.size) (ho:w'.ownsRow B 156 s v n xs) (hg:w'.grownBy w2 v.ownBlock):dS B w w2:=
 h.trans ⟨(Below.refl _ _).grown hg (Nat.le_trans hB h.bel.size) (fun k hk=>(ho.lt k hk).1),fun i _ _ _ _ h2 h3=>hg.block i (aV h3) (fun e=>vC ho h3 h2 e.symm)⟩
theorem dS.fM {B:Nat} {w w':World} (h:dS B w w') {cb:Nat} {cs:Array Value} (hg:w'.heap[cb]? =some (.cells cs 154 (0,0))) (hB:B≤cb) (i:Nat) (y:Value):dS B w (w'.setCell ⟨cb,i,none⟩ y):=
 h.trans ⟨(Below.refl _ _).setCell (p:=⟨cb,i,none⟩) hB _,fun k _ T _ h1 _ h3=>Below.heap_setCell _ _ _ _ (by simp;intro e;subst e;rw [hg] at h3;simp only [Option.some.injEq,Obj.cells.injEq] at h3;exact h1 h3.2.1.symm)⟩
theorem dS.blk {B:Nat} {w w':World} (h:dS B w w') {i:Nat} {cs:Array Value} {T:TypeId} {z:Nat × Nat} (hb:w.heap[i]? =some (.cells cs T z)) (h1:T≠154) (h2:T≠156):w'.heap[i]? =some (.cells cs T z):=(h.oth i cs T z h1 h2 hb).trans hb
theorem aY.goes {B cb:Nat} {l:List Ins} {X:World} (h:aY B cb l X) {k:Nat} {i:Ins} (hk:l[k]? =some i) (tg:Nat):
  ∃g0 cap u,X.heap[cb]? =some (.cells #[.slice (some ⟨g0,0,none⟩) l.length cap] 154 (0,0))∧l.length≤cap∧X.cell? ⟨g0,k*6+5,none⟩=some u∧X.frozen? ⟨g0,k*6+5,none⟩=false∧g0<X.heap.size∧
   aY B cb (l.set k (i.goes tg)) (X.setCell ⟨g0,k*6+5,none⟩ (.int .i64 (tg:Nat)))∧ ∀w,B≤w.heap.size→dS B w X→dS B w (X.setCell ⟨g0,k*6+5,none⟩ (.int .i64 (tg:Nat))):=by
 obtain ⟨h0,v,h1,hl,⟨rfl,hz⟩ | ⟨g0,cap,cur,rfl,hB,hg,hnc,hcm,hcs,htk⟩⟩:=h
 ·rw [List.length_eq_zero_iff.1 hz] at hk
  simp at hk
 have hkl:k<l.length:=(List.getElem?_eq_some_iff.1 hk).1
 have hin:k*6+5<cur.size:=by rw [hcs];omega
 have hne:cb≠g0:=fun e=>by subst e;rw [hg] at h1;simp at h1
 refine ⟨g0,cap,cur[k*6+5],h1,hnc,?_,by simp [World.frozen?,hg],aV hg,⟨h0,_,(Below.heap_setCell _ _ _ _ hne).trans h1,?_⟩,fun w hw hc=>?_⟩
 ·simp [World.cell?,hg,hin]
 ·refine ⟨by rw [BJ],Or.inr ⟨g0,cap,cur.setIfInBounds (k*6+5) (.int .i64 (tg:Nat)),by rw [List.length_set],hB,?_,by rw [List.length_set];exact hnc,hcm,by simpa using hcs,?_⟩⟩
  ·simp [World.setCell,Array.getElem?_modify,hg]
  ·rw [FI l k i tg hk, ←htk,List.length_set,Array.toList_setIfInBounds,List.take_set]
 ·exact hc.trans ⟨(Below.refl _ _).setCell (p:=⟨g0,k*6+5,none⟩) hB _,fun j cs T z' _ h2 h3=>Below.heap_setCell _ _ _ _ (by simp;intro e;subst e;rw [hg] at h3;simp only [Option.some.injEq,Obj.cells.injEq] at h3;exact h2 h3.2.1.symm)⟩
end Go.Proofs.YtacfglopionkfaaGreatDoor
