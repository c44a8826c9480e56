import Derived.Test.YtacfglopionkfaaGreatDoorKWr
import Derived.Laws.AppendOwn
import Derived.Deep.RegionHeld3
import Derived.Deep.LoopGhost
namespace Go.Proofs.YtacfglopionkfaaGreatDoor
set_option maxRecDepth 100000
open Go.RowKit
def RowOf (w:World) (S:Nat→Prop) (kv:Value) (n:Nat) (xs:List Value):Prop:=
 ∃g cap cur,kv= .slice (some ⟨g,0,none⟩) n cap∧S g∧n≤cap∧cap≤maxLen∧w.heap[g]? =some (.cells cur 30 (0,0))∧cur.toList.take (n*6)=xs
theorem RowOf.kept {w w':World} {S:Nat→Prop} {kv:Value} {n:Nat} {xs:List Value} (h:RowOf w S kv n xs) (hk: ∀k,S k→k<w.heap.size→w'.heap[k]? =w.heap[k]?):RowOf w' S kv n xs:=by
 obtain ⟨g,cap,cur,e,hS,h1,h2,hg,ht⟩:=h
 exact ⟨g,cap,cur,e,hS,h1,h2,(hk g hS (lt_of_heap hg)).trans hg,ht⟩
theorem RowOf.mono {w:World} {S S':Nat→Prop} {kv:Value} {n:Nat} {xs:List Value} (h:RowOf w S kv n xs) (hk: ∀k,S k→k<w.heap.size→S' k):RowOf w S' kv n xs:=by
 obtain ⟨g,cap,cur,e,hS,h1,h2,hg,ht⟩:=h
 exact ⟨g,cap,cur,e,hk g hS (lt_of_heap hg),h1,h2,hg,ht⟩
theorem RowOf.cell {w:World} {S:Nat→Prop} {g n cap:Nat} {xs:List Value} (h:RowOf w S (.slice (some ⟨g,0,none⟩) n cap) n xs) {j:Nat} {u:Value} (hu:xs[j]? =some u):w.cell? ⟨g,j,none⟩=some u:=by
 obtain ⟨g',cap',cur,e,hS,h1,h2,hg,ht⟩:=h
 simp only [Value.slice.injEq,Option.some.injEq,Addr.mk.injEq,and_true,true_and] at e
 obtain ⟨rfl,rfl⟩:=e
 rw [←ht] at hu
 have hj:j<n*6:=by
  have:=(List.getElem?_eq_some_iff.1 hu).1
  rw [List.length_take] at this
  omega
 rw [List.getElem?_take,if_pos hj] at hu
 simp only [World.cell?,hg]
 rw [←Array.getElem?_toList]
 simpa using hu
def Tr.Lay (w:World) (S:Nat→Prop):Tr→Value→Prop
 | .num _ _,kv=>kv= .slice none 0 0
 | .name _ _,kv=>kv= .slice none 0 0
 | .un _ _ a,kv=> ∃ka,RowOf w S kv 1 (a.cells ka)∧a.Lay w S ka
 | .bin _ _ a b,kv=> ∃ka kb,RowOf w S kv 2 (a.cells ka++b.cells kb)∧a.Lay w S ka∧b.Lay w S kb
 | .cond _ _ a b c,kv=> ∃ka kb kc,RowOf w S kv 3 (a.cells ka++b.cells kb++c.cells kc)∧a.Lay w S ka∧b.Lay w S kb∧c.Lay w S kc
 | .eF _ _ _ _ a,kv=> ∃ka,RowOf w S kv 1 (a.cells ka)∧a.Lay w S ka
theorem Tr.Lay.kept {w w':World} {S:Nat→Prop} (hk: ∀k,S k→k<w.heap.size→w'.heap[k]? =w.heap[k]?): ∀(t:Tr) (kv:Value),t.Lay w S kv→t.Lay w' S kv
 | .num _ _,_,h=>h
 | .name _ _,_,h=>h
 | .un _ _ a,_,⟨ka,hr,ha⟩=>⟨ka,hr.kept hk,ha.kept hk a ka⟩
 | .bin _ _ a b,_,⟨ka,kb,hr,ha,hb⟩=>⟨ka,kb,hr.kept hk,ha.kept hk a ka,hb.kept hk b kb⟩
 | .cond _ _ a b c,_,⟨ka,kb,kc,hr,ha,hb,hc⟩=>⟨ka,kb,kc,hr.kept hk,ha.kept hk a ka,hb.kept hk b kb,hc.kept hk c kc⟩
 | .eF _ _ _ _ a,_,⟨ka,hr,ha⟩=>⟨ka,hr.kept hk,ha.kept hk a ka⟩
theorem Tr.Lay.mono {w:World} {S S':Nat→Prop} (hk: ∀k,S k→k<w.heap.size→S' k): ∀(t:Tr) (kv:Value),t.Lay w S kv→t.Lay w S' kv
 | .num _ _,_,h=>h
 | .name _ _,_,h=>h
 | .un _ _ a,_,⟨ka,hr,ha⟩=>⟨ka,hr.mono hk,Tr.Lay.mono hk a ka ha⟩
 | .bin _ _ a b,_,⟨ka,kb,hr,ha,hb⟩=>⟨ka,kb,hr.mono hk,Tr.Lay.mono hk a ka ha,Tr.Lay.mono hk b kb hb⟩
 | .cond _ _ a b c,_,⟨ka,kb,kc,hr,ha,hb,hc⟩=>⟨ka,kb,kc,hr.mono hk,Tr.Lay.mono hk a ka ha,Tr.Lay.mono hk b kb hb,Tr.Lay.mono hk c kc hc⟩
 | .eF _ _ _ _ a,_,⟨ka,hr,ha⟩=>⟨ka,hr.mono hk,Tr.Lay.mono hk a ka ha⟩
theorem Tr.Lay.shape {w:World} {S:Nat→Prop} {t:Tr} {kv:Value} (h:t.Lay w S kv): ∃o n c,kv= .slice o n c:=by
 cases t with
 | num n p=>exact ⟨_,_,_,h⟩
 | name s p=>exact ⟨_,_,_,h⟩
 | un op p a=>obtain ⟨ka,⟨g,cap,cur,e,_⟩,_⟩:=h;exact ⟨_,_,_,e⟩
 | bin op p a b=>obtain ⟨ka,kb,⟨g,cap,cur,e,_⟩,_⟩:=h;exact ⟨_,_,_,e⟩
 | cond op p a b c=>obtain ⟨ka,kb,kc,⟨g,cap,cur,e,_⟩,_⟩:=h;exact ⟨_,_,_,e⟩
 | eF op s p q a=>obtain ⟨ka,⟨g,cap,cur,e,_⟩,_⟩:=h;exact ⟨_,_,_,e⟩
theorem Tr.aT (t:Tr) (kv:Value):(t.cells kv).length=6:=rfl
theorem Tr.In.lay {w:World} {lo:Nat}: ∀(t:Tr) (kv:Value),t.In w lo kv→t.Lay w (fun k=>lo≤k) kv
 | .num _ _,_,h=>h
 | .name _ _,_,h=>h
 | .un _ _ a,_,⟨k,ka,e,hl,hk,ha⟩=>⟨ka,⟨k,1,_,e,hl,Nat.le_refl _,by decide,hk,by rw [List.take_of_length_le (by simp [Tr.aT])]⟩,ha.lay a ka⟩
 | .bin _ _ a b,_,⟨k,ka,kb,e,hl,hk,ha,hb⟩=>⟨ka,kb,⟨k,2,_,e,hl,Nat.le_refl _,by decide,hk,by rw [List.take_of_length_le (by simp [Tr.aT])]⟩,ha.lay a ka,hb.lay b kb⟩
 | .cond _ _ a b c,_,⟨k,ka,kb,kc,e,hl,hk,ha,hb,hc⟩=>⟨ka,kb,kc,⟨k,3,_,e,hl,Nat.le_refl _,by decide,hk,by rw [List.take_of_length_le (by simp [Tr.aT])]⟩,ha.lay a ka,hb.lay b kb,hc.lay c kc⟩
 | .eF _ _ _ _ a,_,⟨k,ka,e,hl,hk,ha⟩=>⟨ka,⟨k,1,_,e,hl,Nat.le_refl _,by decide,hk,by rw [List.take_of_length_le (by simp [Tr.aT])]⟩,ha.lay a ka⟩
theorem uV {P:Program} (w:World) (base:Nat) (t ty e:TypeId) (i:TypeInfo) (z:Value) (size bytes:Nat) (ht:P.underlying t=some (.slice e)) (hi:P.info? e=some i) (hz:i.zero=some z)
  (hsize:i.size=size) (hby:i.bytes=bytes) (hzs:z.cells.size=size) (hsz:0<size)
  (v:Value) (n:Nat) (xs:List Value) (hown:w.ownsRow base e size v n xs)
  (a:Addr) (m c:Nat) (news:List Value) (hl:news.length=m*size) (hnews: ∀j u,news[j]? =some u→w.cell? (a.add j)=some u) (h1: ∀u∈news,u.oneCell'=true) (hm:0<m)
  (h63:n+m≤maxLen) (hbytes:(n+m)*bytes≤140737488355328) (hbase:base≤w.heap.size):
  ∃v' w',(Builtin.append_ #[t,t] ty #[v,.slice (some a) m c]).run P w= .ok v' w'∧w'.ownsRow base e size v' (n+m) (xs++news)∧w.grownBy w' v.ownBlock∧(v'.ownBlock=v.ownBlock∨v'.ownBlock=some w.heap.size):=by
 obtain ⟨v1,w1,hr1,ho1,hg1,_⟩:=run_append_own (P:=P) w base t ty e i z size bytes ht hi hz hsize hby hzs hsz v n xs hown a m c news hl hnews h1 h63 hbytes hbase
 refine ⟨v1,w1,hr1,ho1,hg1,?_⟩
 have hsmall:n+m≤9223372036854775807:=by simp only [maxLen] at h63;omega
 subst hsize
 subst hby
 rcases hown.2 with ⟨rfl,rfl⟩ | ⟨g,cap,cur,rfl,hbg,hg,hnc,hcm,hcs,htake⟩
 ·have hr:=run_append_nil (P:=P) w t ty e i z ht hi hz a m c news hl hnews hm (by omega) (by have hb:=hbytes;simp only [Nat.zero_add] at hb;omega)
  rw [hr1] at hr
  injection hr with hv hw
  right
  rw [hv]
  rfl
 ·by_cases hroom:n+m≤cap
  ·have hfit:n*i.size+news.length≤cur.size:=by rw [hl,hcs, ←Nat.add_mul];exact Nat.mul_le_mul_right _ hroom
   have hr:=run_append_room (P:=P) w t ty e i ht hi g n cap cur hg a m c news hl hnews h1 hroom hfit
   rw [hr1] at hr
   injection hr with hv hw
   left
   rw [hv]
   rfl
  ·have holds: ∀j u,xs[j]? =some u→w.cell? ((⟨g,0,none⟩:Addr).add j)=some u:=hown.cells (g:=g) rfl
   have hr:=run_append_grow (P:=P) w t ty e i z ht hi hz ⟨g,0,none⟩ n cap xs hown.1 holds a m c news hl hnews (by omega) (by omega) (growslice_fits (by omega) hbytes)
   rw [hr1] at hr
   injection hr with hv hw
   right
   rw [hv]
   rfl
theorem jF {P:Program} {ops:Array Oper} {o:Oper} {a:Act} {w:World} {K:Act→World→Prop} {Q:Exit→Act→World→Prop} {E:Prop} (hgd:o.guard=none) (s x:Operand) (t:TypeId)
  (ho:o.op= .call {callee:= .builtin .append,args:= #[s,x],argTypes:= #[t,t]})
  (base:Nat) (e:TypeId) (i:TypeInfo) (z:Value) (size bytes:Nat) (ht:P.underlying t=some (.slice e)) (hi:P.info? e=some i) (hz:i.zero=some z)
  (hsize:i.size=size) (hby:i.bytes=bytes) (hzs:z.cells.size=size) (hsz:0<size)
  (v:Value) (n:Nat) (xs:List Value) (hs:a.eval s=v) (hown:w.ownsRow base e size v n xs)
  (ad:Addr) (m c:Nat) (news:List Value) (hx:a.eval x= .slice (some ad) m c) (hl:news.length=m*size) (hnews: ∀j u,news[j]? =some u→w.cell? (ad.add j)=some u) (h1: ∀u∈news,u.oneCell'=true) (hm:0<m)
  (h63:n+m≤maxLen) (hbytes:(n+m)*bytes≤140737488355328) (hbase:base≤w.heap.size)
  (h: ∀v' w',w'.ownsRow base e size v' (n+m) (xs++news)→w.grownBy w' v.ownBlock→(v'.ownBlock=v.ownBlock∨v'.ownBlock=some w.heap.size)→K (a.put o.dst v') w'):
  if Region.wanted o (yielded ops a.tmps)=true then Oper.wp P o a w K Q else E:=by
 have hw:Region.wanted o (yielded ops a.tmps)=true:=by simp [Region.wanted,hgd]
 rw [if_pos hw]
 obtain ⟨v',w',hr,h2,h3,h4⟩:=uV (P:=P) w base t o.type e i z size bytes ht hi hz hsize hby hzs hsz v n xs hown ad m c news hl hnews h1 hm h63 hbytes hbase
 unfold Oper.wp execOp
 simp only [ho,resolve,invoke,builtin,Sem.run_bind,Sem.run_pure,Result.andThen_ok,List.map_toArray,List.map_cons,List.map_nil,hs,hx,hr]
 exact h v' w' h2 h3 h4
def Kw (W0:World) (t:Tr) (Dk:Value):Prop:= ∀w,Below W0.heap.size W0 w→Calls Tryz.prog 95 #[t.v Dk] w fun e w'=>(∃kv,e= .returned (t.v kv)∧t.Lay w' (fun k=>w.heap.size≤k) kv)∧Below w.heap.size w w'
theorem MO:(Tryz.prog.info? 30).map (fun i=>(i.zero.map (·.cells.size),i.size,i.bytes))=some (some 6,6,80):=by kernel_rfl
set_option maxHeartbeats 4000000 in
theorem wR (op nm:ByteArray) (nv p q:Int) (w:World):
  Calls Tryz.prog 95 #[.agg #[.string op,.int .i64 nv,.string nm,.int .i64 p,.int .i64 q,.slice none 0 0]] w fun e w'=>e= .returned (.agg #[.string op,.int .i64 nv,.string nm,.int .i64 p,.int .i64 q,.slice none 0 0])∧Below w.heap.size w w':=by
 go_enter Tryz.func95,Tryz.ntmps95
 go_wp2_with fail
 obtain ⟨W,hW⟩: ∃W:World,W=(w.alloc (.cells #[.string op,.int .i64 nv,.string nm,.int .i64 p,.int .i64 q,.slice none 0 0] 30)).alloc (.cells #[.string ⟨#[]⟩,.int .i64 0,.string ⟨#[]⟩,.int .i64 0,.int .i64 0,.slice none 0 0] 30):=⟨_,rfl⟩
 rw [←hW]
 have HB:Hid (Below w.heap.size w W):=Lib.hid (by rw [hW];exact ((Below.refl _ _).alloc (Nat.le_refl _) _).alloc (by simp) _)
 have HP:Hid (W.heap[w.heap.size]? =some (.cells #[.string op,.int .i64 nv,.string nm,.int .i64 p,.int .i64 q,.slice none 0 0] 30 (0,0))):=Lib.hid (by rw [hW];exact aN (heap_alloc_last w _) _)
 have HR:Hid (W.heap[w.heap.size+1]? =some (.cells #[.string ⟨#[]⟩,.int .i64 0,.string ⟨#[]⟩,.int .i64 0,.int .i64 0,.slice none 0 0] 30 (0,0))):=Lib.hid (by
  rw [hW]
  have:=heap_alloc_last (w.alloc (.cells #[.string op,.int .i64 nv,.string nm,.int .i64 p,.int .i64 q,.slice none 0 0] 30)) (.cells #[.string ⟨#[]⟩,.int .i64 0,.string ⟨#[]⟩,.int .i64 0,.int .i64 0,.slice none 0 0] 30)
  simpa using this)
 clear hW
 go_loop [5,11] (fun _ i=>i= .int .i64 0) (fun _ _=>0)
 case atStart=>rfl
 case round=>
  obtain rfl:=hrel
  obtain ⟨⟨c0,c1,c2,c3,c4,c5⟩,_⟩:=aA HP.out
  go_wp2_with (refine aC rfl _ _ rfl rfl (w.heap.size+1) op nv nm p q (.slice none 0 0) rfl rfl rfl _ HR.out rfl ?_)
  exact bodyPost_ret (aI rfl _ _ (w.heap.size+1) _ rfl (setRow_self HR.out _) rfl) rfl ⟨rfl,below_setRow HB.out (by omega) _⟩
def iF (ks:Nat→Tr) (vs:Nat→Value) (k:Nat):List Value:=((List.range k).map fun i=>(ks i).cells (vs i)).flatten
theorem tY (ks:Nat→Tr) (vs:Nat→Value) (k:Nat):iF ks vs (k+1)=iF ks vs k++(ks k).cells (vs k):=by
 unfold iF
 rw [List.range_succ,List.map_append,List.flatten_append]
 simp
theorem Hg (ks:Nat→Tr) (vs vs':Nat→Value) (k:Nat) (h: ∀i,i<k→vs i=vs' i):iF ks vs k=iF ks vs' k:=by
 unfold iF
 congr 1
 apply List.map_congr_left
 intro i hi
 rw [h i (List.mem_range.1 hi)]
structure pY (w:World) (op nm:ByteArray) (nv p q:Int) (ks:Nat→Tr) (k:Nat) (kv:Value) (vs:Nat→Value) (W:World):Prop where
 pb:W.heap[w.heap.size]? =some (.cells #[.string op,.int .i64 nv,.string nm,.int .i64 p,.int .i64 q,kv] 30 (0,0))
 rb:W.heap[w.heap.size+1]? =some (.cells #[.string ⟨#[]⟩,.int .i64 0,.string ⟨#[]⟩,.int .i64 0,.int .i64 0,.slice none 0 0] 30 (0,0))
 own:W.ownsRow (w.heap.size+2) 30 6 kv k (iF ks vs k)
 lay: ∀i,i<k→(ks i).Lay W (fun b=>w.heap.size+2≤b∧some b≠kv.ownBlock) (vs i)
 bel:Below w.heap.size w W
theorem pY.hi {w:World} {op nm:ByteArray} {nv p q:Int} {ks:Nat→Tr} {k:Nat} {kv:Value} {vs:Nat→Value} {W:World} (h:pY w op nm nv p q ks k kv vs W):w.heap.size+2≤W.heap.size:=by have:=lt_of_heap h.rb;omega
theorem pY.next {w:World} {op nm:ByteArray} {nv p q:Int} {ks:Nat→Tr} {k:Nat} {kv:Value} {vs:Nat→Value} {W W':World} (h:pY w op nm nv p q ks k kv vs W) (hb:Below W.heap.size W W'):pY w op nm nv p q ks k kv vs W' where
 pb:=(hb.block _ (lt_of_heap h.pb)).trans h.pb
 rb:=(hb.block _ (lt_of_heap h.rb)).trans h.rb
 own:=h.own.kept ⟨hb.os,hb.tape,hb.output,hb.size,fun b hb' _=>hb.block b hb'⟩ (row:=none) (by
  cases hv:kv.ownBlock with
  | none=>exact Or.inl rfl
  | some b=>exact Or.inr (by simp))
 lay i hi:=(h.lay i hi).kept (fun b _ hb'=>hb.block b hb') _ _
 bel:=h.bel.trans (hb.mono h.bel.size)
theorem pY.shape {w:World} {op nm:ByteArray} {nv p q:Int} {ks:Nat→Tr} {k:Nat} {kv:Value} {vs:Nat→Value} {W:World} (h:pY w op nm nv p q ks k kv vs W): ∃a cap,kv= .slice a k cap:=by
 obtain ⟨_,⟨rfl,rfl⟩ | ⟨g,cap,cur,rfl,_⟩⟩:=h.own
 ·exact ⟨none,0,rfl⟩
 ·exact ⟨_,cap,rfl⟩
theorem pY.succ {w:World} {op nm:ByteArray} {nv p q:Int} {ks:Nat→Tr} {k:Nat} {kv kn v':Value} {vs:Nat→Value} {W W':World} (h:pY w op nm nv p q ks k kv vs W)
  (hl:(ks k).Lay W (fun b=>w.heap.size+2≤b∧some b≠kv.ownBlock) kn) (ho:W'.ownsRow (w.heap.size+2) 30 6 v' (k+1) (iF ks vs k++(ks k).cells kn)) (hg:W.grownBy W' kv.ownBlock) (hv:v'.ownBlock=kv.ownBlock∨v'.ownBlock=some W.heap.size):
  pY w op nm nv p q ks (k+1) v' (fun i=>if i=k then kn else vs i) (W'.setCell ⟨w.heap.size,5,none⟩ v'):=by
 have hlt: ∀x,kv.ownBlock=some x→w.heap.size+2≤x∧x<W.heap.size:=fun x hx=>h.own.lt x hx
 have hne: ∀b,b<w.heap.size+2→some b≠kv.ownBlock:=fun b hb e=>by have:=(hlt b e.symm).1;omega
 have hP:W'.heap[w.heap.size]? =some (.cells #[.string op,.int .i64 nv,.string nm,.int .i64 p,.int .i64 q,kv] 30 (0,0)):=(hg.block _ (lt_of_heap h.pb) (hne _ (by omega))).trans h.pb
 have hrow:iF ks (fun i=>if i=k then kn else vs i) (k+1)=iF ks vs k++(ks k).cells kn:=by
  rw [tY,Hg ks _ vs k (fun i hi=>if_neg (by omega)),if_pos rfl]
 have keep: ∀b,(w.heap.size+2≤b∧some b≠kv.ownBlock)→b<W.heap.size→(W'.setCell ⟨w.heap.size,5,none⟩ v').heap[b]? =W.heap[b]? :=fun b ⟨h1,h2⟩ hb=>by
  rw [Below.heap_setCell _ _ _ _ (by show b≠w.heap.size;omega)]
  exact hg.block b hb h2
 have mono: ∀b,(w.heap.size+2≤b∧some b≠kv.ownBlock)→b<W.heap.size→(w.heap.size+2≤b∧some b≠v'.ownBlock):=fun b ⟨h1,h2⟩ hb=>by
  refine ⟨h1,?_⟩
  rcases hv with e | e
  ·rw [e];exact h2
  ·rw [e];intro e';have:=Option.some.inj e';omega
 exact {
  pb:=aU hP 5 v'
  rb:=by
   rw [Below.heap_setCell _ _ _ _ (by show w.heap.size+1≠w.heap.size;omega)]
   exact (hg.block _ (lt_of_heap h.rb) (hne _ (by omega))).trans h.rb
  own:=by
   rw [hrow]
   exact ownsRow_setCell_below ho (by show w.heap.size<w.heap.size+2;omega) v'
  lay:=fun i hi=>by
   have tr: ∀(t:Tr) (x:Value),t.Lay W (fun b=>w.heap.size+2≤b∧some b≠kv.ownBlock) x→t.Lay (W'.setCell ⟨w.heap.size,5,none⟩ v') (fun b=>w.heap.size+2≤b∧some b≠v'.ownBlock) x:=fun t x hx=>by
    have h1:=Tr.Lay.mono (S':=fun b=>(w.heap.size+2≤b∧some b≠kv.ownBlock)∧some b≠v'.ownBlock) (fun b hb hb'=>⟨hb,(mono b hb hb').2⟩) t x hx
    have h2:=Tr.Lay.kept (w':=W'.setCell ⟨w.heap.size,5,none⟩ v') (fun b hb hb'=>keep b hb.1 hb') t x h1
    exact Tr.Lay.mono (fun b hb _=>⟨hb.1.1,hb.2⟩) t x h2
   by_cases hik:i=k
   ·subst hik
    simp only [if_true]
    exact tr _ _ hl
   ·simp only [if_neg hik]
    exact tr _ _ (h.lay i (by omega))
  bel:=(h.bel.grown hg h.bel.size (fun j hj=>by have:=(hlt j hj).1;omega)).setCell (p:=⟨w.heap.size,5,none⟩) (Nat.le_refl _) _}
theorem qN {w:World} {base:Nat} {e:TypeId} {v:Value} {n:Nat} {xs:List Value} (h:w.ownsRow base e 6 v n xs): ∃a cap,v= .slice a n cap:=by
 obtain ⟨_,⟨rfl,rfl⟩ | ⟨g,cap,cur,rfl,_⟩⟩:=h
 ·exact ⟨none,0,rfl⟩
 ·exact ⟨_,cap,rfl⟩
theorem Hf {w:World} {base:Nat} {v:Value} {n:Nat} {xs:List Value} (h:w.ownsRow base 30 6 v n xs) (hn:1≤n):RowOf w (fun b=>base≤b) v n xs:=by
 obtain ⟨_,⟨rfl,rfl⟩ | ⟨g,cap,cur,rfl,hb,hg,hnc,hcm,hcs,ht⟩⟩:=h
 ·omega
 ·exact ⟨g,cap,cur,rfl,hb,hnc,hcm,hg,ht⟩
theorem tZ {w:World} {b:Nat} {xs:List Value} {t:TypeId} (h:w.heap[b]? =some (.cells xs.toArray t (0,0))): ∀j u,xs[j]? =some u→w.cell? ((⟨b,0,none⟩:Addr).add j)=some u:=by
 intro j u hj
 rw [WideShapes.add_plain,Nat.zero_add]
 simp [World.cell?,h,hj]
theorem MN: ∃(i:TypeInfo) (z:Value),Tryz.prog.info? 30=some i∧i.zero=some z∧i.size=6∧i.bytes=80∧z.cells.size=6:=by
 have h:=MO
 cases hi:Tryz.prog.info? 30 with
 | none=>rw [hi] at h;cases h
 | some i=>
  rw [hi] at h
  simp only [Option.map_some,Option.some.injEq,Prod.mk.injEq] at h
  obtain ⟨hz,hs,hb⟩:=h
  cases hzz:i.zero with
  | none=>rw [hzz] at hz;cases hz
  | some z=>
   rw [hzz] at hz
   simp only [Option.map_some,Option.some.injEq] at hz
   exact ⟨i,z,rfl,hzz,hs,hb,hz⟩
set_option maxHeartbeats 8000000 in
theorem sG (W0:World) (blk n cap0:Nat) (op nm:ByteArray) (nv p q:Int) (ks:Nat→Tr) (vs0:Nat→Value) (hn:1≤n) (hn3:n≤3)
  (hks: ∀i,i<n→(W0.cell? ⟨blk,i*6,none⟩=some (.string (ks i).op)∧W0.cell? ⟨blk,i*6+1,none⟩=some (.int .i64 (ks i).val)∧W0.cell? ⟨blk,i*6+2,none⟩=some (.string (ks i).nm)∧W0.cell? ⟨blk,i*6+3,none⟩=some (.int .i64 (ks i).pos)∧W0.cell? ⟨blk,i*6+4,none⟩=some (.int .i64 (ks i).aG)∧W0.cell? ⟨blk,i*6+5,none⟩=some (vs0 i))∧(∃a m c,vs0 i= .slice a m c)∧Kw W0 (ks i) (vs0 i))
  (w:World) (hb:Below W0.heap.size W0 w):
  Calls Tryz.prog 95 #[.agg #[.string op,.int .i64 nv,.string nm,.int .i64 p,.int .i64 q,.slice (some ⟨blk,0,none⟩) n cap0]] w fun e w'=>
   (∃kv vs,e= .returned (.agg #[.string op,.int .i64 nv,.string nm,.int .i64 p,.int .i64 q,kv])∧RowOf w' (fun b=>w.heap.size≤b) kv n (iF ks vs n)∧ ∀i,i<n→(ks i).Lay w' (fun b=>w.heap.size≤b) (vs i))∧Below w.heap.size w w':=by
 obtain ⟨i0,z0,hi,hz0,hz1,hz2,hz3⟩:=MN
 have HK:=Lib.hid hks
 have HW0:Hid (∀X,Below w.heap.size w X→Below W0.heap.size W0 X):=Lib.hid (fun X hX=>hb.trans (hX.mono hb.size))
 clear hks hb
 go_enter Tryz.func95,Tryz.ntmps95
 go_wp2_with fail
 obtain ⟨W,hW⟩: ∃W:World,W=(w.alloc (.cells #[.string op,.int .i64 nv,.string nm,.int .i64 p,.int .i64 q,.slice none 0 0] 30)).alloc (.cells #[.string ⟨#[]⟩,.int .i64 0,.string ⟨#[]⟩,.int .i64 0,.int .i64 0,.slice none 0 0] 30):=⟨_,rfl⟩
 rw [←hW]
 have HI:Hid (pY w op nm nv p q ks 0 (.slice none 0 0) vs0 W):=Lib.hid (by
  rw [hW]
  exact {
   pb:=aN (heap_alloc_last w _) _
   rb:=by
    have:=heap_alloc_last (w.alloc (.cells #[.string op,.int .i64 nv,.string nm,.int .i64 p,.int .i64 q,.slice none 0 0] 30)) (.cells #[.string ⟨#[]⟩,.int .i64 0,.string ⟨#[]⟩,.int .i64 0,.int .i64 0,.slice none 0 0] 30)
    simpa using this
   own:=World.ownsRow_nil _ _ _ _
   lay:=fun i hi=>absurd hi (by omega)
   bel:=((Below.refl _ _).alloc (Nat.le_refl _) _).alloc (by simp) _})
 clear hW
 go_loopg [5,11] n (fun g _ s11 wr=> ∃(k:Nat) (kv:Value) (vs:Nat→Value),g=n - k∧k≤n∧s11= .int .i64 k∧Aside (pY w op nm nv p q ks k kv vs wr))
 case atStart=>exact ⟨0,_,_,by omega,by omega,rfl,HI.out⟩
 case round=>
  obtain ⟨k,kv,vs,hg,hk,rfl,A1⟩:=hrel
  have HG:=Lib.hid hg
  have JH:=Lib.hid A1.out
  clear hg A1 HI
  obtain ⟨oa,oc,rfl⟩:=JH.out.shape
  by_cases hlt:k<n
  ·have hki:(k:Int)<(n:Int):=by omega
   obtain ⟨⟨x0,x1,x2,x3,x4,x5⟩,⟨ka,km,kc,hv0⟩,hcl⟩:=HK.out k hlt
   rw [hv0] at x5 hcl
   have HC:Hid (∀X,Below W0.heap.size W0 X→Calls Tryz.prog 95 #[.agg #[.string (ks k).op,.int .i64 (ks k).val,.string (ks k).nm,.int .i64 (ks k).pos,.int .i64 (ks k).aG,.slice ka km kc]] X fun e w'=>(∃kv,e= .returned (.agg #[.string (ks k).op,.int .i64 (ks k).val,.string (ks k).nm,.int .i64 (ks k).pos,.int .i64 (ks k).aG,kv])∧(ks k).Lay w' (fun b=>X.heap.size≤b) kv)∧Below X.heap.size X w'):=Lib.hid (fun X hX=>hcl X hX)
   clear hv0 hcl
   have HBr:=Lib.hid (HW0.out wr JH.out.bel)
   have hc: ∀j u,W0.cell? ⟨blk,j,none⟩=some u→wr.cell? ⟨blk,j,none⟩=some u:=fun j u h=>cell_kept HBr.out h
   have y0:=hc _ _ x0
   have y1:=hc _ _ x1
   have y2:=hc _ _ x2
   have y3:=hc _ _ x3
   have y4:=hc _ _ x4
   have y5:=hc _ _ x5
   clear hc x0 x1 x2 x3 x4 x5
   have HOW:Hid (∀x,(Value.slice oa k oc).ownBlock=some x→x<wr.heap.size):=Lib.hid (fun x hx=>(JH.out.own.lt x hx).2)
   have hhi:=JH.out.hi
   go_wp2_with fail
   clear y0 y1 y2 y3 y4 y5
   obtain ⟨X0,hX0⟩: ∃X0:World,X0=(wr.alloc (.cells #[.string (ks k).op,.int .i64 (ks k).val,.string (ks k).nm,.int .i64 (ks k).pos,.int .i64 (ks k).aG,.slice ka km kc] 30)).drew:=⟨_,rfl⟩
   have zk:Hid (pY w op nm nv p q ks k (.slice oa k oc) vs X0):=Lib.hid (by rw [hX0];exact JH.out.next (fJ wr _))
   have DR:Hid (X0.heap[wr.heap.size]? =some (.cells #[.string (ks k).op,.int .i64 (ks k).val,.string (ks k).nm,.int .i64 (ks k).pos,.int .i64 (ks k).aG,.slice ka km kc] 30 (0,0))):=Lib.hid (by rw [hX0];exact heap_alloc_last wr _)
   refine wp_region_held (S:=fun X=>X.heap[wr.heap.size]? =some (.cells #[.string (ks k).op,.int .i64 (ks k).val,.string (ks k).nm,.int .i64 (ks k).pos,.int .i64 (ks k).aG,.slice ka km kc] 30 (0,0))) (by kernel_rfl) ?_
   try (change wpAnyH _ _ _ _ _ _ _ _ (World.drew _))
   rw [←hX0]
   clear hX0
   refine wpAnyH_take (i:=0) (v:= .pointer (some ⟨w.heap.size,5,none⟩)) rfl (by kernel_rfl) (by kernel_rfl) (by kernel_rfl) (fun _ _ _ h=>h) (Or.inl ⟨by kernel_rfl,?_⟩) DR.out ?_
   ·intro X hS;go_simp
   refine wpAnyH_take (i:=2) (v:= .agg #[.string (ks k).op,.int .i64 (ks k).val,.string (ks k).nm,.int .i64 (ks k).pos,.int .i64 (ks k).aG,.slice ka km kc]) rfl (by kernel_rfl) (by kernel_rfl) (by kernel_rfl) (fun _ _ _ h=>h) (Or.inl ⟨by kernel_rfl,?_⟩) DR.out ?_
   ·intro X hS
    have hS':X.heap[wr.heap.size]? =some (.cells #[.string (ks k).op,.int .i64 (ks k).val,.string (ks k).nm,.int .i64 (ks k).pos,.int .i64 (ks k).aG,.slice ka km kc] 30 (0,0)):=hS
    obtain ⟨⟨z0,z1,z2,z3,z4,z5⟩,_⟩:=aA hS'
    clear hS hS'
    go_simp
   refine wpAnyH_all (rs:=[1,3]) (by kernel_rfl) (by simp) ?_
   intro ii hii
   rw [List.mem_cons,List.mem_singleton] at hii
   rcases hii with hii | hii
   ·subst hii
    refine wpOp_step (by rfl) ?_
    intro K' hK'
    have q5:X0.cell? ⟨w.heap.size,5,none⟩=some (.slice oa k oc):=(aA zk.out.pb).1.2.2.2.2.2
    go_simp
    refine hK' _ _ ⟨DR.out,?_⟩
    clear hK' q5
    refine wpAnyH_all (rs:=[3]) (by kernel_rfl) (by simp) ?_
    intro ii hii
    rw [List.mem_singleton] at hii
    subst hii
    refine wpOp_step (by rfl) ?_
    intro K' hK'
    go_simp
    go_at_call 95
    refine (HC.out X0 (HW0.out _ zk.out.bel)).mono ?_
    rintro e X1 ⟨⟨kn,rfl,dA⟩,hbX⟩
    obtain ⟨no,nn,nc,rfl⟩:=dA.shape
    have HIX1:=Lib.hid (zk.out.next hbX)
    have Ze:Hid (X1.heap[wr.heap.size]? =some (.cells #[.string (ks k).op,.int .i64 (ks k).val,.string (ks k).nm,.int .i64 (ks k).pos,.int .i64 (ks k).aG,.slice ka km kc] 30 (0,0))):=Lib.hid ((hbX.block _ (lt_of_heap DR.out)).trans DR.out)
    have HLX1:Hid ((ks k).Lay X1 (fun b=>w.heap.size+2≤b∧some b≠(Value.slice oa k oc).ownBlock) (.slice no nn nc)):=Lib.hid (Tr.Lay.mono (fun b hb _=>⟨Nat.le_trans zk.out.hi hb,fun e=>by have:=(zk.out.own.lt b e.symm).2;omega⟩) _ _ dA)
    clear dA hbX
    refine hK' _ _ ⟨Ze.out,?_⟩
    clear hK'
    refine wpAnyH_all (rs:=[4]) (by kernel_rfl) (by simp) ?_
    intro ii hii
    rw [List.mem_singleton] at hii
    subst hii
    refine wpOp_step (by rfl) ?_
    intro K' hK'
    go_simp
    obtain ⟨X2,hX2⟩: ∃X2:World,X2=X1.alloc (.cells #[.string (ks k).op,.int .i64 (ks k).val,.string (ks k).nm,.int .i64 (ks k).pos,.int .i64 (ks k).aG,.slice no nn nc] 30):=⟨_,rfl⟩
    rw [←hX2]
    have Gt:Hid (pY w op nm nv p q ks k (.slice oa k oc) vs X2):=Lib.hid (by rw [hX2];exact HIX1.out.next ((Below.refl _ _).alloc (Nat.le_refl _) _))
    have TN:Hid (X2.heap[wr.heap.size]? =some (.cells #[.string (ks k).op,.int .i64 (ks k).val,.string (ks k).nm,.int .i64 (ks k).pos,.int .i64 (ks k).aG,.slice ka km kc] 30 (0,0))):=Lib.hid (by rw [hX2];exact aN Ze.out _)
    have HLX2:Hid ((ks k).Lay X2 (fun b=>w.heap.size+2≤b∧some b≠(Value.slice oa k oc).ownBlock) (.slice no nn nc)):=Lib.hid (by rw [hX2];exact HLX1.out.kept (fun b _ hb=>aB _ _ b hb) _ _)
    have HNX2:Hid (X2.heap[X1.heap.size]? =some (.cells #[.string (ks k).op,.int .i64 (ks k).val,.string (ks k).nm,.int .i64 (ks k).pos,.int .i64 (ks k).aG,.slice no nn nc] 30 (0,0))):=Lib.hid (by rw [hX2];exact heap_alloc_last X1 _)
    clear hX2
    refine hK' _ _ ⟨TN.out,?_⟩
    clear hK'
    refine wpAnyH_all (rs:=[5]) (by kernel_rfl) (by simp) ?_
    intro ii hii
    rw [List.mem_singleton] at hii
    subst hii
    refine wpOp_step (by rfl) ?_
    intro K' hK'
    refine jF rfl (.tmp 16) (.tmp 19) 28 rfl (w.heap.size+2) 30 i0 z0 6 80 Tryz.underlying28 hi hz0 hz1 hz2 hz3 (by decide) (.slice oa k oc) k _ rfl Gt.out.own ⟨X1.heap.size,0,none⟩ 1 1 ((ks k).cells (.slice no nn nc)) rfl rfl ?_ ?_ (by decide) (by unfold maxLen;omega) (by omega) Gt.out.hi ?_
    ·exact tZ HNX2.out
    ·intro u hu;simp only [Tr.cells,List.mem_cons,List.not_mem_nil,or_false] at hu;rcases hu with rfl | rfl | rfl | rfl | rfl | rfl<;>rfl
    intro v' X3 hown hg hv
    obtain ⟨va,vc,rfl⟩:=qN hown
    have TM:Hid (X3.heap[wr.heap.size]? =some (.cells #[.string (ks k).op,.int .i64 (ks k).val,.string (ks k).nm,.int .i64 (ks k).pos,.int .i64 (ks k).aG,.slice ka km kc] 30 (0,0))):=Lib.hid ((hg.block _ (lt_of_heap TN.out) (fun e=>by have:=HOW.out _ e.symm;omega)).trans TN.out)
    have HPX3:Hid (X3.heap[w.heap.size]? =some (.cells #[.string op,.int .i64 nv,.string nm,.int .i64 p,.int .i64 q,(.slice oa k oc)] 30 (0,0))):=Lib.hid ((hg.block _ (lt_of_heap Gt.out.pb) (fun e=>by have:=(Gt.out.own.lt _ e.symm).1;omega)).trans Gt.out.pb)
    have HIX4:=Lib.hid (Gt.out.succ HLX2.out hown hg hv)
    clear hown hg hv
    refine hK' _ _ ⟨TM.out,?_⟩
    clear hK'
    refine wpAnyH_take (i:=6) (v:= .pointer (some ⟨w.heap.size,5,none⟩)) rfl (by kernel_rfl) (by kernel_rfl) (by kernel_rfl) (fun _ _ _ h=>h) (Or.inl ⟨by kernel_rfl,?_⟩) TM.out ?_
    ·intro X hS;go_simp
    refine wpAnyH_all (rs:=[7]) (by kernel_rfl) (by simp) ?_
    intro ii hii
    rw [List.mem_singleton] at hii
    subst hii
    refine wpOp_step (by rfl) ?_
    intro K' hK'
    obtain ⟨⟨_,_,_,_,_,q5⟩,⟨_,_,_,_,_,f5⟩⟩:=aA HPX3.out
    go_simp
    refine hK' _ _ ⟨?_,?_⟩
    ·exact (Below.heap_setCell _ _ _ _ (by show wr.heap.size≠w.heap.size;omega)).trans TM.out
    clear hK' q5 f5
    refine wpAnyH_done (by kernel_rfl) ?_ _
    go_wp2_with fail
    go_roundg (n - (k+1))
    case measure=>have:=HG.out;omega
    case rel=>exact ⟨k+1,_,_,rfl,by omega,by go_num,HIX4.out⟩
   ·subst hii
    refine wpOp_step (by rfl) ?_
    intro K' hK'
    go_simp
    go_at_call 95
    refine (HC.out X0 (HW0.out _ zk.out.bel)).mono ?_
    rintro e X5 ⟨⟨kn,rfl,dA⟩,hbX⟩
    obtain ⟨no,nn,nc,rfl⟩:=dA.shape
    have Ua:=Lib.hid (zk.out.next hbX)
    have Oo:Hid (X5.heap[wr.heap.size]? =some (.cells #[.string (ks k).op,.int .i64 (ks k).val,.string (ks k).nm,.int .i64 (ks k).pos,.int .i64 (ks k).aG,.slice ka km kc] 30 (0,0))):=Lib.hid ((hbX.block _ (lt_of_heap DR.out)).trans DR.out)
    have Zi:Hid ((ks k).Lay X5 (fun b=>w.heap.size+2≤b∧some b≠(Value.slice oa k oc).ownBlock) (.slice no nn nc)):=Lib.hid (Tr.Lay.mono (fun b hb _=>⟨Nat.le_trans zk.out.hi hb,fun e=>by have:=(zk.out.own.lt b e.symm).2;omega⟩) _ _ dA)
    clear dA hbX
    refine hK' _ _ ⟨Oo.out,?_⟩
    clear hK'
    refine wpAnyH_all (rs:=[1,4]) (by kernel_rfl) (by simp) ?_
    intro ii hii
    rw [List.mem_cons,List.mem_singleton] at hii
    rcases hii with hii | hii
    ·subst hii
     refine wpOp_step (by rfl) ?_
     intro K' hK'
     have q5:X5.cell? ⟨w.heap.size,5,none⟩=some (.slice oa k oc):=(aA Ua.out.pb).1.2.2.2.2.2
     go_simp
     refine hK' _ _ ⟨Oo.out,?_⟩
     clear hK' q5
     refine wpAnyH_all (rs:=[4]) (by kernel_rfl) (by simp) ?_
     intro ii hii
     rw [List.mem_singleton] at hii
     subst hii
     refine wpOp_step (by rfl) ?_
     intro K' hK'
     go_simp
     obtain ⟨X6,WG⟩: ∃X6:World,X6=X5.alloc (.cells #[.string (ks k).op,.int .i64 (ks k).val,.string (ks k).nm,.int .i64 (ks k).pos,.int .i64 (ks k).aG,.slice no nn nc] 30):=⟨_,rfl⟩
     rw [←WG]
     have Gs:Hid (pY w op nm nv p q ks k (.slice oa k oc) vs X6):=Lib.hid (by rw [WG];exact Ua.out.next ((Below.refl _ _).alloc (Nat.le_refl _) _))
     have TL:Hid (X6.heap[wr.heap.size]? =some (.cells #[.string (ks k).op,.int .i64 (ks k).val,.string (ks k).nm,.int .i64 (ks k).pos,.int .i64 (ks k).aG,.slice ka km kc] 30 (0,0))):=Lib.hid (by rw [WG];exact aN Oo.out _)
     have HLX6:Hid ((ks k).Lay X6 (fun b=>w.heap.size+2≤b∧some b≠(Value.slice oa k oc).ownBlock) (.slice no nn nc)):=Lib.hid (by rw [WG];exact Zi.out.kept (fun b _ hb=>aB _ _ b hb) _ _)
     have HNX6:Hid (X6.heap[X5.heap.size]? =some (.cells #[.string (ks k).op,.int .i64 (ks k).val,.string (ks k).nm,.int .i64 (ks k).pos,.int .i64 (ks k).aG,.slice no nn nc] 30 (0,0))):=Lib.hid (by rw [WG];exact heap_alloc_last X5 _)
     clear WG
     refine hK' _ _ ⟨TL.out,?_⟩
     clear hK'
     refine wpAnyH_all (rs:=[5]) (by kernel_rfl) (by simp) ?_
     intro ii hii
     rw [List.mem_singleton] at hii
     subst hii
     refine wpOp_step (by rfl) ?_
     intro K' hK'
     refine jF rfl (.tmp 16) (.tmp 19) 28 rfl (w.heap.size+2) 30 i0 z0 6 80 Tryz.underlying28 hi hz0 hz1 hz2 hz3 (by decide) (.slice oa k oc) k _ rfl Gs.out.own ⟨X5.heap.size,0,none⟩ 1 1 ((ks k).cells (.slice no nn nc)) rfl rfl ?_ ?_ (by decide) (by unfold maxLen;omega) (by omega) Gs.out.hi ?_
     ·exact tZ HNX6.out
     ·intro u hu;simp only [Tr.cells,List.mem_cons,List.not_mem_nil,or_false] at hu;rcases hu with rfl | rfl | rfl | rfl | rfl | rfl<;>rfl
     intro v' X7 hown hg hv
     obtain ⟨va,vc,rfl⟩:=qN hown
     have TK:Hid (X7.heap[wr.heap.size]? =some (.cells #[.string (ks k).op,.int .i64 (ks k).val,.string (ks k).nm,.int .i64 (ks k).pos,.int .i64 (ks k).aG,.slice ka km kc] 30 (0,0))):=Lib.hid ((hg.block _ (lt_of_heap TL.out) (fun e=>by have:=HOW.out _ e.symm;omega)).trans TL.out)
     have HPX7:Hid (X7.heap[w.heap.size]? =some (.cells #[.string op,.int .i64 nv,.string nm,.int .i64 p,.int .i64 q,(.slice oa k oc)] 30 (0,0))):=Lib.hid ((hg.block _ (lt_of_heap Gs.out.pb) (fun e=>by have:=(Gs.out.own.lt _ e.symm).1;omega)).trans Gs.out.pb)
     have HIX8:=Lib.hid (Gs.out.succ HLX6.out hown hg hv)
     clear hown hg hv
     refine hK' _ _ ⟨TK.out,?_⟩
     clear hK'
     refine wpAnyH_take (i:=6) (v:= .pointer (some ⟨w.heap.size,5,none⟩)) rfl (by kernel_rfl) (by kernel_rfl) (by kernel_rfl) (fun _ _ _ h=>h) (Or.inl ⟨by kernel_rfl,?_⟩) TK.out ?_
     ·intro X hS;go_simp
     refine wpAnyH_all (rs:=[7]) (by kernel_rfl) (by simp) ?_
     intro ii hii
     rw [List.mem_singleton] at hii
     subst hii
     refine wpOp_step (by rfl) ?_
     intro K' hK'
     obtain ⟨⟨_,_,_,_,_,q5⟩,⟨_,_,_,_,_,f5⟩⟩:=aA HPX7.out
     go_simp
     refine hK' _ _ ⟨?_,?_⟩
     ·exact (Below.heap_setCell _ _ _ _ (by show wr.heap.size≠w.heap.size;omega)).trans TK.out
     clear hK' q5 f5
     refine wpAnyH_done (by kernel_rfl) ?_ _
     go_wp2_with fail
     go_roundg (n - (k+1))
     case measure=>have:=HG.out;omega
     case rel=>exact ⟨k+1,_,_,rfl,by omega,by go_num,HIX8.out⟩
    ·subst hii
     refine wpOp_step (by rfl) ?_
     intro K' hK'
     go_simp
     obtain ⟨X9,WE⟩: ∃X9:World,X9=X5.alloc (.cells #[.string (ks k).op,.int .i64 (ks k).val,.string (ks k).nm,.int .i64 (ks k).pos,.int .i64 (ks k).aG,.slice no nn nc] 30):=⟨_,rfl⟩
     rw [←WE]
     have DU:Hid (pY w op nm nv p q ks k (.slice oa k oc) vs X9):=Lib.hid (by rw [WE];exact Ua.out.next ((Below.refl _ _).alloc (Nat.le_refl _) _))
     have Om:Hid (X9.heap[wr.heap.size]? =some (.cells #[.string (ks k).op,.int .i64 (ks k).val,.string (ks k).nm,.int .i64 (ks k).pos,.int .i64 (ks k).aG,.slice ka km kc] 30 (0,0))):=Lib.hid (by rw [WE];exact aN Oo.out _)
     have HLX9:Hid ((ks k).Lay X9 (fun b=>w.heap.size+2≤b∧some b≠(Value.slice oa k oc).ownBlock) (.slice no nn nc)):=Lib.hid (by rw [WE];exact Zi.out.kept (fun b _ hb=>aB _ _ b hb) _ _)
     have HNX9:Hid (X9.heap[X5.heap.size]? =some (.cells #[.string (ks k).op,.int .i64 (ks k).val,.string (ks k).nm,.int .i64 (ks k).pos,.int .i64 (ks k).aG,.slice no nn nc] 30 (0,0))):=Lib.hid (by rw [WE];exact heap_alloc_last X5 _)
     clear WE
     refine hK' _ _ ⟨Om.out,?_⟩
     clear hK'
     refine wpAnyH_all (rs:=[1]) (by kernel_rfl) (by simp) ?_
     intro ii hii
     rw [List.mem_singleton] at hii
     subst hii
     refine wpOp_step (by rfl) ?_
     intro K' hK'
     have q5:X9.cell? ⟨w.heap.size,5,none⟩=some (.slice oa k oc):=(aA DU.out.pb).1.2.2.2.2.2
     go_simp
     refine hK' _ _ ⟨Om.out,?_⟩
     clear hK' q5
     refine wpAnyH_all (rs:=[5]) (by kernel_rfl) (by simp) ?_
     intro ii hii
     rw [List.mem_singleton] at hii
     subst hii
     refine wpOp_step (by rfl) ?_
     intro K' hK'
     refine jF rfl (.tmp 16) (.tmp 19) 28 rfl (w.heap.size+2) 30 i0 z0 6 80 Tryz.underlying28 hi hz0 hz1 hz2 hz3 (by decide) (.slice oa k oc) k _ rfl DU.out.own ⟨X5.heap.size,0,none⟩ 1 1 ((ks k).cells (.slice no nn nc)) rfl rfl ?_ ?_ (by decide) (by unfold maxLen;omega) (by omega) DU.out.hi ?_
     ·exact tZ HNX9.out
     ·intro u hu;simp only [Tr.cells,List.mem_cons,List.not_mem_nil,or_false] at hu;rcases hu with rfl | rfl | rfl | rfl | rfl | rfl<;>rfl
     intro v' X10 hown hg hv
     obtain ⟨va,vc,rfl⟩:=qN hown
     have JY:Hid (X10.heap[wr.heap.size]? =some (.cells #[.string (ks k).op,.int .i64 (ks k).val,.string (ks k).nm,.int .i64 (ks k).pos,.int .i64 (ks k).aG,.slice ka km kc] 30 (0,0))):=Lib.hid ((hg.block _ (lt_of_heap Om.out) (fun e=>by have:=HOW.out _ e.symm;omega)).trans Om.out)
     have ZA:Hid (X10.heap[w.heap.size]? =some (.cells #[.string op,.int .i64 nv,.string nm,.int .i64 p,.int .i64 q,(.slice oa k oc)] 30 (0,0))):=Lib.hid ((hg.block _ (lt_of_heap DU.out.pb) (fun e=>by have:=(DU.out.own.lt _ e.symm).1;omega)).trans DU.out.pb)
     have ZB:=Lib.hid (DU.out.succ HLX9.out hown hg hv)
     clear hown hg hv
     refine hK' _ _ ⟨JY.out,?_⟩
     clear hK'
     refine wpAnyH_take (i:=6) (v:= .pointer (some ⟨w.heap.size,5,none⟩)) rfl (by kernel_rfl) (by kernel_rfl) (by kernel_rfl) (fun _ _ _ h=>h) (Or.inl ⟨by kernel_rfl,?_⟩) JY.out ?_
     ·intro X hS;go_simp
     refine wpAnyH_all (rs:=[7]) (by kernel_rfl) (by simp) ?_
     intro ii hii
     rw [List.mem_singleton] at hii
     subst hii
     refine wpOp_step (by rfl) ?_
     intro K' hK'
     obtain ⟨⟨_,_,_,_,_,q5⟩,⟨_,_,_,_,_,f5⟩⟩:=aA ZA.out
     go_simp
     refine hK' _ _ ⟨?_,?_⟩
     ·exact (Below.heap_setCell _ _ _ _ (by show wr.heap.size≠w.heap.size;omega)).trans JY.out
     clear hK' q5 f5
     refine wpAnyH_done (by kernel_rfl) ?_ _
     go_wp2_with fail
     go_roundg (n - (k+1))
     case measure=>have:=HG.out;omega
     case rel=>exact ⟨k+1,_,_,rfl,by omega,by go_num,ZB.out⟩
  ·obtain rfl:k=n:=by omega
   obtain ⟨⟨c0,c1,c2,c3,c4,c5⟩,_⟩:=aA JH.out.pb
   go_wp2_with (refine aC rfl _ _ rfl rfl (w.heap.size+1) op nv nm p q (.slice oa k oc) rfl rfl rfl _ JH.out.rb rfl ?_)
   have hkeep: ∀b,w.heap.size+2≤b→ ∀c,(wr.setRow (w.heap.size+1) c).heap[b]? =wr.heap[b]? :=fun b hb c=>by
    show (wr.heap.modify (w.heap.size+1) _)[b]? =_
    rw [Array.getElem?_modify,if_neg (by omega)]
   refine bodyPost_ret (aI rfl _ _ (w.heap.size+1) _ rfl (setRow_self JH.out.rb _) rfl) rfl ⟨⟨_,vs,rfl,?_,fun i hi=>?_⟩,below_setRow JH.out.bel (by omega) _⟩
   ·exact ((Hf JH.out.own hn).kept (fun b hb _=>hkeep b hb _)).mono (fun b hb _=>by omega)
   ·exact Tr.Lay.mono (fun b hb _=>by omega) _ _ ((JH.out.lay i hi).kept (fun b hb _=>hkeep b hb.1 _) _ _)
theorem zJ (ks:Nat→Tr) (vs:Nat→Value): ∀(n i j:Nat),i<n→j<6→(iF ks vs n)[i*6+j]? =((ks i).cells (vs i))[j]?
 | 0,i,j,hi,_=>absurd hi (by omega)
 | n+1,i,j,hi,hj=>by
  have hlen: ∀m,(iF ks vs m).length=m*6:=by
   intro m
   induction m with
   | zero=>rfl
   | succ m ih=>rw [tY,List.length_append,ih,Tr.aT];omega
  rw [tY]
  by_cases h:i<n
  ·rw [List.getElem?_append_left (by rw [hlen];omega)]
   exact zJ ks vs n i j h hj
  ·obtain rfl:i=n:=by omega
   rw [List.getElem?_append_right (by rw [hlen];omega),hlen,Nat.add_sub_cancel_left]
theorem RowOf.kids {w:World} {S:Nat→Prop} {kv:Value} {n:Nat} {ks:Nat→Tr} {vs:Nat→Value} (h:RowOf w S kv n (iF ks vs n)): ∃blk cap,kv= .slice (some ⟨blk,0,none⟩) n cap∧n≤cap∧S blk∧ ∀i,i<n→
  (w.cell? ⟨blk,i*6,none⟩=some (.string (ks i).op)∧w.cell? ⟨blk,i*6+1,none⟩=some (.int .i64 (ks i).val)∧w.cell? ⟨blk,i*6+2,none⟩=some (.string (ks i).nm)∧w.cell? ⟨blk,i*6+3,none⟩=some (.int .i64 (ks i).pos)∧w.cell? ⟨blk,i*6+4,none⟩=some (.int .i64 (ks i).aG)∧w.cell? ⟨blk,i*6+5,none⟩=some (vs i)):=by
 obtain ⟨g,cap,cur,e,hS,h1,h2,hg,ht⟩:=h
 subst e
 have hh:RowOf w S (.slice (some ⟨g,0,none⟩) n cap) n (iF ks vs n):=⟨g,cap,cur,rfl,hS,h1,h2,hg,ht⟩
 refine ⟨g,cap,rfl,h1,hS,fun i hi=>?_⟩
 have at_: ∀j,j<6→ ∀u,((ks i).cells (vs i))[j]? =some u→w.cell? ⟨g,i*6+j,none⟩=some u:=fun j hj u hu=>hh.cell (by rw [zJ ks vs n i j hi hj];exact hu)
 exact ⟨at_ 0 (by omega) _ rfl,at_ 1 (by omega) _ rfl,at_ 2 (by omega) _ rfl,at_ 3 (by omega) _ rfl,at_ 4 (by omega) _ rfl,at_ 5 (by omega) _ rfl⟩
def k1 (a:Tr):Nat→Tr:=fun _=>a
def k2 (a b:Tr):Nat→Tr:=fun i=>if i=0 then a else b
def k3 (a b c:Tr):Nat→Tr:=fun i=>if i=0 then a else if i=1 then b else c
def v1 (a:Value):Nat→Value:=fun _=>a
def v2 (a b:Value):Nat→Value:=fun i=>if i=0 then a else b
def v3 (a b c:Value):Nat→Value:=fun i=>if i=0 then a else if i=1 then b else c
theorem qF (a:Tr) (x:Nat→Value):iF (k1 a) x 1=a.cells (x 0):=by simp [iF,k1,List.range_succ]
theorem vS (a b:Tr) (x:Nat→Value):iF (k2 a b) x 2=a.cells (x 0)++b.cells (x 1):=by simp [iF,k2,List.range_succ]
theorem DX (a b c:Tr) (x:Nat→Value):iF (k3 a b c) x 3=a.cells (x 0)++b.cells (x 1)++c.cells (x 2):=by simp [iF,k3,List.range_succ]
theorem clone_any (W0:World) (S:Nat→Prop): ∀(t:Tr) (Dk:Value),t.Lay W0 S Dk→Kw W0 t Dk
 | .num n p,Dk,h=>by
  obtain rfl:Dk=_:=h
  intro w _
  refine (wR mO ak n p 0 w).mono ?_
  rintro e w' ⟨rfl,hb⟩
  exact ⟨⟨_,rfl,rfl⟩,hb⟩
 | .name s p,Dk,h=>by
  obtain rfl:Dk=_:=h
  intro w _
  refine (wR jk s 0 p 0 w).mono ?_
  rintro e w' ⟨rfl,hb⟩
  exact ⟨⟨_,rfl,rfl⟩,hb⟩
 | .un op p a,Dk,h=>by
  obtain ⟨ka,hr,ha⟩:=h
  have hr':RowOf W0 S Dk 1 (iF (k1 a) (v1 ka) 1):=by rw [qF];exact hr
  obtain ⟨blk,cap,rfl,_,_,hc⟩:=hr'.kids
  intro w hb
  refine (sG W0 blk 1 cap op ak 0 p 0 (k1 a) (v1 ka) (by omega) (by omega) (fun i hi=>⟨hc i hi,ha.shape,clone_any W0 S a ka ha⟩) w hb).mono ?_
  rintro e w' ⟨⟨kv,vs,rfl,hrow,hl⟩,hb'⟩
  rw [qF] at hrow
  exact ⟨⟨kv,rfl,vs 0,hrow,hl 0 (by omega)⟩,hb'⟩
 | .bin op p a b,Dk,h=>by
  obtain ⟨ka,kb,hr,ha,hb0⟩:=h
  have hr':RowOf W0 S Dk 2 (iF (k2 a b) (v2 ka kb) 2):=by rw [vS];exact hr
  obtain ⟨blk,cap,rfl,_,_,hc⟩:=hr'.kids
  intro w hb
  refine (sG W0 blk 2 cap op ak 0 p 0 (k2 a b) (v2 ka kb) (by omega) (by omega) (fun i hi=>⟨hc i hi,?_,?_⟩) w hb).mono ?_
  ·unfold v2;split
   ·exact ha.shape
   ·exact hb0.shape
  ·unfold k2 v2;split
   ·exact clone_any W0 S a ka ha
   ·exact clone_any W0 S b kb hb0
  rintro e w' ⟨⟨kv,vs,rfl,hrow,hl⟩,hb'⟩
  rw [vS] at hrow
  exact ⟨⟨kv,rfl,vs 0,vs 1,hrow,hl 0 (by omega),hl 1 (by omega)⟩,hb'⟩
 | .cond op p a b c,Dk,h=>by
  obtain ⟨ka,kb,kc,hr,ha,hb0,hc0⟩:=h
  have hr':RowOf W0 S Dk 3 (iF (k3 a b c) (v3 ka kb kc) 3):=by rw [DX];exact hr
  obtain ⟨blk,cap,rfl,_,_,hc⟩:=hr'.kids
  intro w hb
  refine (sG W0 blk 3 cap op ak 0 p 0 (k3 a b c) (v3 ka kb kc) (by omega) (by omega) (fun i hi=>⟨hc i hi,?_,?_⟩) w hb).mono ?_
  ·unfold v3;split
   ·exact ha.shape
   ·split
    ·exact hb0.shape
    ·exact hc0.shape
  ·unfold k3 v3;split
   ·exact clone_any W0 S a ka ha
   ·split
    ·exact clone_any W0 S b kb hb0
    ·exact clone_any W0 S c kc hc0
  rintro e w' ⟨⟨kv,vs,rfl,hrow,hl⟩,hb'⟩
  rw [DX] at hrow
  exact ⟨⟨kv,rfl,vs 0,vs 1,vs 2,hrow,hl 0 (by omega),hl 1 (by omega),hl 2 (by omega)⟩,hb'⟩
 | .eF op s p q a,Dk,h=>by
  obtain ⟨ka,hr,ha⟩:=h
  have hr':RowOf W0 S Dk 1 (iF (k1 a) (v1 ka) 1):=by rw [qF];exact hr
  obtain ⟨blk,cap,rfl,_,_,hc⟩:=hr'.kids
  intro w hb
  refine (sG W0 blk 1 cap op s 0 p q (k1 a) (v1 ka) (by omega) (by omega) (fun i hi=>⟨hc i hi,ha.shape,clone_any W0 S a ka ha⟩) w hb).mono ?_
  rintro e w' ⟨⟨kv,vs,rfl,hrow,hl⟩,hb'⟩
  rw [qF] at hrow
  exact ⟨⟨kv,rfl,vs 0,hrow,hl 0 (by omega)⟩,hb'⟩
set_option maxHeartbeats 2000000 in
theorem KC (E:Nat) (t:Tr) (w:World) (h:xO w E t) (hw:t.Wf):
  Calls Tryz.prog 56 #[.pointer (some ⟨E,0,none⟩)] w fun e w'=>(∃kv,e= .returned (t.v kv)∧t.Lay w' (fun k=>w.heap.size≤k) kv)∧Below w.heap.size w w':=by
 have HN:Hid (∀W,Below w.heap.size w W→Calls Tryz.prog 58 #[.pointer (some ⟨E,0,none⟩)] W fun e w'=>e= .returned (.bool false)∧W=w'):=Lib.hid (fun W hW=>Dx E t W (h.below hW) hw)
 obtain ⟨o,m,hE,hI⟩:=h
 have hEl:=lt_of_heap hE
 have HE:=Lib.hid hE
 have HC:Hid (∀X,Below w.heap.size w X→Calls Tryz.prog 95 #[.agg #[.string t.op,.int .i64 t.val,.string t.nm,.int .i64 t.pos,.int .i64 t.aG,.slice o m m]] X fun e w'=>(∃kv,e= .returned (.agg #[.string t.op,.int .i64 t.val,.string t.nm,.int .i64 t.pos,.int .i64 t.aG,kv])∧t.Lay w' (fun b=>X.heap.size≤b) kv)∧Below X.heap.size X w'):=Lib.hid (fun X hX=>clone_any w _ t _ (hI.lay t _) X hX)
 clear hE hI hw
 go_enter Tryz.func56,Tryz.ntmps56
 go_wp2_with fail
 obtain ⟨W,hW⟩: ∃W:World,W=w.alloc (.cells #[.string ⟨#[]⟩,.int .i64 0,.string ⟨#[]⟩,.int .i64 0,.int .i64 0,.slice none 0 0] 30):=⟨_,rfl⟩
 rw [←hW]
 have HB:Hid (Below w.heap.size w W):=Lib.hid (by rw [hW];exact (Below.refl _ _).alloc (Nat.le_refl _) _)
 have HR:Hid (W.heap[w.heap.size]? =some (.cells #[.string ⟨#[]⟩,.int .i64 0,.string ⟨#[]⟩,.int .i64 0,.int .i64 0,.slice none 0 0] 30 (0,0))):=Lib.hid (by rw [hW];exact heap_alloc_last w _)
 clear hW
 refine (HN.out W HB.out).mono ?_
 rintro e w1 ⟨rfl,rfl⟩
 obtain ⟨⟨c0,c1,c2,c3,c4,c5⟩,_⟩:=aA ((HB.out.block E hEl).trans HE.out)
 go_wp2_with fail
 refine (HC.out W HB.out).mono ?_
 rintro e w2 ⟨⟨kv,rfl,dA⟩,hb2⟩
 obtain ⟨ko,kn,kc,rfl⟩:=dA.shape
 have HL:=Lib.hid dA
 have HB2:Hid (Below w.heap.size w w2):=Lib.hid (HB.out.trans (hb2.mono HB.out.size))
 have hWs:=lt_of_heap HR.out
 have HR2:Hid (w2.heap[w.heap.size]? =some (.cells #[.string ⟨#[]⟩,.int .i64 0,.string ⟨#[]⟩,.int .i64 0,.int .i64 0,.slice none 0 0] 30 (0,0))):=Lib.hid ((hb2.block _ hWs).trans HR.out)
 clear dA hb2 c0 c1 c2 c3 c4 c5
 go_wp2_with (refine aC rfl _ _ rfl rfl w.heap.size t.op t.val t.nm t.pos t.aG (.slice ko kn kc) rfl rfl rfl _ HR2.out rfl ?_)
 refine bodyPost_ret (aI rfl _ _ w.heap.size _ rfl (setRow_self HR2.out _) rfl) rfl ⟨⟨_,rfl,?_⟩,below_setRow HB2.out (Nat.le_refl _) _⟩
 refine Tr.Lay.mono (fun b hb _=>by omega) t _ (HL.out.kept (fun b hb _=>?_) t _)
 show (w2.heap.modify w.heap.size _)[b]? =_
 rw [Array.getElem?_modify,if_neg (by omega)]
end Go.Proofs.YtacfglopionkfaaGreatDoor
