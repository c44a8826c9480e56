import Derived.Test.YtacfglopionkfaaGreatDoorKCx
namespace Go.Proofs.YtacfglopionkfaaGreatDoor
set_option maxRecDepth 100000
open Go.RowKit
def Rs.map (f:Tr→Tr):Rs→Rs
 | .ok e t=> .ok (f e) t
 | .bad c p=> .bad c p
structure xP (w:World) (rb:Nat) (bv:Value) (t t' t2:Tk) (B3 B4:Nat) (W:World):Prop where
 r:W.heap[w.heap.size]? =some (.cells #[.string ⟨#[]⟩,.int .i64 0,.string ⟨#[]⟩,.int .i64 0,.int .i64 0,.slice none 0 0] 30)
 b3:W.heap[B3]? =some (.cells #[.int .i64 t'.kind,.int .i64 t'.start,.int .i64 t'.stop,.string t'.text,.int .i64 t'.num,.bool t'.over] 133)
 b4:W.heap[B4]? =some (.cells #[.int .i64 t.kind,.int .i64 t.start,.int .i64 t.stop,.string t.text,.int .i64 t.num,.bool t.over] 133)
 h3:rb<B3
 h4:rb<B4
 n3:B3≠w.heap.size
 n4:B4≠w.heap.size
 ch:Ch rb w W
theorem xP.next {w:World} {rb:Nat} {bv:Value} {t t' t2:Tk} {B3 B4:Nat} {W W':World} (h:xP w rb bv t t' t2 B3 B4 W) (hw:rb<w.heap.size) (hc:Ch rb W W'):xP w rb bv t t' t2 B3 B4 W' where
 r:=(hc.2 _ (lt_of_heap h.r) (by omega)).trans h.r
 b3:=(hc.2 _ (lt_of_heap h.b3) (by have:=h.h3;omega)).trans h.b3
 b4:=(hc.2 _ (lt_of_heap h.b4) (by have:=h.h4;omega)).trans h.b4
 h3:=h.h3
 h4:=h.h4
 n3:=h.n3
 n4:=h.n4
 ch:=h.ch.trans hc
theorem qX {rb:Nat} {w w':World} (h:Ch rb w w'):Ch rb w w'.drew:=⟨⟨h.1.os,h.1.tape,h.1.output,h.1.size,h.1.block⟩,h.2⟩
theorem nH {rb:Nat} {w w':World} (h:Ch rb w.drew w'):Ch rb w w':=⟨⟨h.1.os,h.1.tape,h.1.output,h.1.size,h.1.block⟩,h.2⟩
theorem xP.cells {w:World} {rb:Nat} {bv:Value} {t t' t2:Tk} {B3 B4:Nat} {W:World} (h:xP w rb bv t t' t2 B3 B4 W):
  W.cell? ⟨B3,3,none⟩=some (.string t'.text)∧W.cell? ⟨B4,3,none⟩=some (.string t.text)∧W.cell? ⟨B4,1,none⟩=some (.int .i64 t.start)∧W.cell? ⟨B3,1,none⟩=some (.int .i64 t'.start):=by
 refine ⟨?_,?_,?_,?_⟩<;>simp [World.cell?,h.b3,h.b4]
theorem aB (w:World) (o:Obj) (k:Nat) (h:k<w.heap.size):(w.alloc o).heap[k]? =w.heap[k]? :=by
 show (w.heap.push o)[k]? =_
 rw [Array.getElem?_push,if_neg (by omega)]
def jJ (w:World) (g:Nat) (v0 v1 v2 v3 v4 v5:Value):World:=(((((w.setCell ⟨g,0,none⟩ v0).setCell ⟨g,1,none⟩ v1).setCell ⟨g,2,none⟩ v2).setCell ⟨g,3,none⟩ v3).setCell ⟨g,4,none⟩ v4).setCell ⟨g,5,none⟩ v5
theorem bg (w:World) (g:Nat) (v0 v1 v2 v3 v4 v5:Value) (b:Nat) (hb:b≠g):(jJ w g v0 v1 v2 v3 v4 v5).heap[b]? =w.heap[b]? :=by
 unfold jJ
 rw [Below.heap_setCell _ _ _ _ hb,Below.heap_setCell _ _ _ _ hb,Below.heap_setCell _ _ _ _ hb,Below.heap_setCell _ _ _ _ hb,Below.heap_setCell _ _ _ _ hb,Below.heap_setCell _ _ _ _ hb]
theorem pF {w:World} {g:Nat} {x0 x1 x2 x3 x4 x5:Value} {t:TypeId} (h:w.heap[g]? =some (.cells #[x0,x1,x2,x3,x4,x5] t (0,0))) (v0 v1 v2 v3 v4 v5:Value):
  (jJ w g v0 v1 v2 v3 v4 v5).heap[g]? =some (.cells #[v0,v1,v2,v3,v4,v5] t (0,0)):=by
 have:=aU (aU (aU (aU (aU (aU h 0 v0) 1 v1) 2 v2) 3 v3) 4 v4) 5 v5
 simpa [jJ] using this
theorem qM {B:Nat} {w w':World} (h:Below B w w') {g:Nat} (hb:B≤g) (v0 v1 v2 v3 v4 v5:Value):Below B w (jJ w' g v0 v1 v2 v3 v4 v5):=
 (((((h.setCell (p:=⟨g,0,none⟩) hb _).setCell (p:=⟨g,1,none⟩) hb _).setCell (p:=⟨g,2,none⟩) hb _).setCell (p:=⟨g,3,none⟩) hb _).setCell (p:=⟨g,4,none⟩) hb _).setCell (p:=⟨g,5,none⟩) hb _
theorem qV {rb:Nat} {w w':World} (h:Ch rb w w') {g:Nat} (hg:w.heap.size≤g) (hr:rb≤g) (v0 v1 v2 v3 v4 v5:Value):Ch rb w (jJ w' g v0 v1 v2 v3 v4 v5):=
 ⟨qM h.1 hr _ _ _ _ _ _,fun i hi hb=>(bg _ _ _ _ _ _ _ _ i (by omega)).trans (h.2 i hi hb)⟩
theorem xP.put {w:World} {rb:Nat} {bv:Value} {t t' t2:Tk} {B3 B4:Nat} {W:World} (h:xP w rb bv t t' t2 B3 B4 W) (v0 v1 v2 v3 v4 v5:Value):
  let W':=(((((W.setCell ⟨w.heap.size,0,none⟩ v0).setCell ⟨w.heap.size,1,none⟩ v1).setCell ⟨w.heap.size,2,none⟩ v2).setCell ⟨w.heap.size,3,none⟩ v3).setCell ⟨w.heap.size,4,none⟩ v4).setCell ⟨w.heap.size,5,none⟩ v5
  W'.cell? ⟨B3,3,none⟩=some (.string t'.text)∧W'.cell? ⟨B4,3,none⟩=some (.string t.text)∧W'.cell? ⟨B4,1,none⟩=some (.int .i64 t.start)∧W'.cell? ⟨B3,1,none⟩=some (.int .i64 t'.start):=by
 have e3:=(bg W w.heap.size v0 v1 v2 v3 v4 v5 B3 h.n3).trans h.b3
 have e4:=(bg W w.heap.size v0 v1 v2 v3 v4 v5 B4 h.n4).trans h.b4
 unfold jJ at e3 e4
 refine ⟨?_,?_,?_,?_⟩<;>simp [World.cell?,e3,e4]
set_option maxHeartbeats 4000000 in
theorem LY {l:List Int} {rb:Nat} {bv:Value} {s:Nat→Addr} {n:Nat} (ih:Dn l rb bv s n) (t:Tk) (res:Rs) (w:World) (h:rd l n .expr (tok l (tok l t.stop).stop)=some res) (hk:t.kind=3) (ha:fZ (tok l t.stop).text=true) (hy:pq l rb bv s t w):
  Calls Tryz.prog 73 #[.pointer (some ⟨rb,0,none⟩)] w fun e w'=>Out rb w.heap.size bv s (res.map (.eF (tok l t.stop).text t.text t.start (tok l t.stop).start)) e w'∧Ch rb w w':=by
 have hrb:=lt_of_heap hy.rd
 obtain ⟨t',ht'⟩: ∃t',tok l t.stop=t':=⟨_,rfl⟩
 have hts:t'.stop≤l.length:=by rw [←ht'];exact bD _ _ hy.st
 rw [ht'] at ha h⊢
 obtain ⟨t2,ht2⟩: ∃t2,tok l t'.stop=t2:=⟨_,rfl⟩
 have YV:t2.stop≤l.length:=by rw [←ht2];exact bD _ _ hts
 rw [ht2] at h
 have htx:t'.text.size≤9223372036854775807:=by rw [←ht'];exact Nat.le_trans (Bz _ _) hy.cx.sl.2.1
 have HE:Hid (∀W,Ch rb w W→Rd W rb bv t2→Calls Tryz.prog 73 #[.pointer (some ⟨rb,0,none⟩)] W fun e w'=>Out rb W.heap.size bv s res e w'∧Ch rb W w'):=Lib.hid (fun W hW hr=>ih.expr t2 res W h (hy.ch hW hr YV))
 have HT:Hid (∀W,Below w.heap.size w W→Calls Tryz.prog 72 #[bv,.int .i64 t.stop] W fun e w'=>e= .returned (.agg #[.int .i64 t'.kind,.int .i64 t'.start,.int .i64 t'.stop,.string t'.text,.int .i64 t'.num,.bool t'.over])∧Below W.heap.size W w'):=Lib.hid (fun W hW=>ni bv l t.stop t' ht' W (hy.below hW).cx.sl hy.st)
 have HT1:Hid (∀W,Ch rb w W→Rd W rb bv t→Calls Tryz.prog 107 #[.pointer (some ⟨rb,0,none⟩)] W fun e w'=>e= .returned (.agg #[.int .i64 t.kind,.int .i64 t.start,.int .i64 t.stop,.string t.text,.int .i64 t.num,.bool t.over])∧Rd w' rb bv t'∧Ch rb W w'):=Lib.hid (fun W hW hr=>by
  have:=take_any rb bv l t W hr (hy.ch hW hr hy.st).cx.sl hy.st
  rw [ht'] at this
  exact this)
 have HT2:Hid (∀W,Ch rb w W→Rd W rb bv t'→Calls Tryz.prog 107 #[.pointer (some ⟨rb,0,none⟩)] W fun e w'=>e= .returned (.agg #[.int .i64 t'.kind,.int .i64 t'.start,.int .i64 t'.stop,.string t'.text,.int .i64 t'.num,.bool t'.over])∧Rd w' rb bv t2∧Ch rb W w'):=Lib.hid (fun W hW hr=>by
  have:=take_any rb bv l t' W hr (hy.ch hW hr hts).cx.sl hts
  rw [ht2] at this
  exact this)
 have HA:Hid (∀W,Calls Tryz.prog 61 #[.string t'.text] W fun e w'=>e= .returned (.bool true)∧W=w'):=Lib.hid (fun W=>by have:=kZ t'.text W htx;rw [ha] at this;exact this)
 obtain ⟨⟨c0,c1,c2,c3,c4,c5,c6⟩,_,hb⟩:=hy.rd.facts
 rw [hk] at c1
 have SA:=Lib.hid hy.rd
 have HB:Hid (∀o,Below w.heap.size w (w.alloc o)):=Lib.hid (fun o=>(Below.refl _ _).alloc (Nat.le_refl _) o)
 clear ih h hy hk ha ht' htx hts ht2 YV
 go_enter Tryz.func73,Tryz.ntmps73
 go_upto_region 3 with (fail)
 obtain ⟨W,hW⟩: ∃W:World,W=w.alloc (.cells #[.string ⟨#[]⟩,.int .i64 0,.string ⟨#[]⟩,.int .i64 0,.int .i64 0,.slice none 0 0] 30):=⟨_,rfl⟩
 rw [←hW]
 have HW:Hid (Below w.heap.size w W):=Lib.hid (by rw [hW];exact HB.out _)
 have HR:Hid (W.heap[w.heap.size]? =some (.cells #[.string ⟨#[]⟩,.int .i64 0,.string ⟨#[]⟩,.int .i64 0,.int .i64 0,.slice none 0 0] 30)):=Lib.hid (by rw [hW];exact heap_alloc_last w _)
 clear hW c0 c1 c2 c3 c4 c5 c6
 have HRW:Hid (Rd W rb bv t):=Lib.hid ((HW.out.block rb hrb).trans SA.out)
 obtain ⟨⟨c0,c1,c2,c3,c4,c5,c6⟩,_,hb'⟩:=HRW.out.facts
 go_cut [3] (fun s3 wx=>Peek W t' s3 wx)
 case first=>
  go_region_with (first
   | (go_at_call 72;(with_reducible refine (HT.out W.drew (HW.out.drew)).mono ?_);rintro e w1 ⟨rfl,hb1⟩)
   | (go_at_call 72;(with_reducible refine (HT.out (W.alloc (.cells #[.int .i64 0,.int .i64 0,.int .i64 0,.string ⟨#[]⟩,.int .i64 0,.bool false] 133)).drew (HW.out.trans ((fJ W _).mono HW.out.size))).mono ?_);rintro e w1 ⟨rfl,hb1⟩;have HZ:Hid (w1.heap[W.heap.size]? =some (.cells #[.int .i64 0,.int .i64 0,.int .i64 0,.string ⟨#[]⟩,.int .i64 0,.bool false] 133)):=Lib.hid ((hb1.block W.heap.size (by simp)).trans (heap_alloc_last W _));obtain ⟨⟨z0,z1,z2,z3,z4,z5⟩,y0,y1,y2,y3,y4,y5⟩:=aA HZ.out))
  all_goals
   go_wp2_with fail
   go_meet
   first
    | exact ⟨w1.heap.size,rfl,hb1.size,heap_alloc_last w1 _,((Below.refl _ _).drew.trans hb1).alloc (hb1.size) _⟩
    | exact ⟨W.heap.size,rfl,Nat.le_refl _,FN HZ.out t',wS ((fJ W _).trans (hb1.mono (by simp))) (Nat.le_refl _) t'⟩
 case rest=>
  obtain ⟨B3,rfl,hB,hblk,hbl⟩:=hcut
  have vN:=Lib.hid hblk
  have YO:=Lib.hid hbl
  clear hblk hbl c0 c1 c2 c3 c4 c5 c6
  have Oc:Hid (Below w.heap.size w wc):=Lib.hid (HW.out.trans (YO.out.mono HW.out.size))
  have HCc:Hid (Ch rb w wc):=Lib.hid (Ch.of_below Oc.out (Nat.le_of_lt hrb))
  have hsz:=HW.out.size
  have hRW:=lt_of_heap HR.out
  have SB:Hid (wc.heap[w.heap.size]? =some (.cells #[.string ⟨#[]⟩,.int .i64 0,.string ⟨#[]⟩,.int .i64 0,.int .i64 0,.slice none 0 0] 30)):=Lib.hid ((YO.out.block _ hRW).trans HR.out)
  have HRdc:Hid (Rd wc rb bv t):=Lib.hid ((Oc.out.block rb hrb).trans SA.out)
  obtain ⟨⟨z0,z1,z2,z3,z4,z5⟩,_⟩:=aA vN.out
  go_wp2_with (first | (go_at_call 61;refine (HA.out _).mono ?_;rintro e w' ⟨rfl,rfl⟩))
  refine (HT1.out _ HCc.out HRdc.out).mono ?_
  rintro e w1 ⟨rfl,hr1,hc1⟩
  have HR1:=Lib.hid hr1
  have ou:=Lib.hid hc1
  clear hr1 hc1 z0 z1 z2 z3 z4 z5
  have HAl:Hid (∀o,Ch rb w (w1.alloc o)):=Lib.hid (fun o=>(HCc.out.trans ou.out).alloc o (by have:=ou.out.1.size;have:=Oc.out.size;omega))
  have HRl:Hid (∀o,Rd (w1.alloc o) rb bv t'):=Lib.hid (fun o=>HR1.out.alloc o)
  go_wp2_with fail
  refine (HT2.out _ (HAl.out _) (HRl.out _)).mono ?_
  rintro e w2 ⟨rfl,hr2,hc2⟩
  have HX:Hid (xP w rb bv t t' t2 B3 w1.heap.size w2):=Lib.hid (xP.next (W:=w1.alloc (.cells #[.int .i64 t.kind,.int .i64 t.start,.int .i64 t.stop,.string t.text,.int .i64 t.num,.bool t.over] 133)) ⟨aN ((ou.out.2 _ (lt_of_heap SB.out) (by omega)).trans SB.out) _,aN ((ou.out.2 _ (lt_of_heap vN.out) (by omega)).trans vN.out) _,heap_alloc_last w1 _,by omega,by have:=ou.out.1.size;have:=Oc.out.size;omega,by omega,by have:=ou.out.1.size;have:=lt_of_heap SB.out;omega,HAl.out _⟩ hrb hc2)
  have HR2:=Lib.hid hr2
  clear hr2 hc2
  go_wp2_with fail
  generalize w1.heap.size=B4 at*
  have HE8:Hid (Calls Tryz.prog 73 #[.pointer (some ⟨rb,0,none⟩)] w2.drew fun e w'=>Out rb w2.heap.size bv s res e w'∧Ch rb w2.drew w'):=Lib.hid (HE.out w2.drew (qX HX.out.ch) HR2.out)
  have Nq:Hid (xP w rb bv t t' t2 B3 B4 w2.drew):=Lib.hid (HX.out.next hrb (qX (Ch.refl rb w2)))
  clear HAl HRl ou HR1
  have hb2:=HX.out.ch.1.size
  cases res with
  | ok tr t3=>
   go_region_held3 (fun w'=>w'.cell? ⟨B3,3,none⟩=some (.string t'.text)∧w'.cell? ⟨B4,3,none⟩=some (.string t.text)∧w'.cell? ⟨B4,1,none⟩=some (.int .i64 t.start)∧w'.cell? ⟨B3,1,none⟩=some (.int .i64 t'.start))
    (first | with_reducible exact HX.out.cells | with_reducible exact Nq.out.cells | with_reducible exact Yt.out.cells | with_reducible exact YI.out.cells | with_reducible exact YI.out.put _ _ _ _ _ _)
    (first | (go_at_call 73;(with_reducible refine HE8.out.mono ?_);rintro e w3 ⟨⟨kv,rfl,hin,hrd⟩,hch⟩;have nY:=Lib.hid hin;have Ap:=Lib.hid hrd;clear hin hrd;have Yt:=Lib.hid (HX.out.next hrb (nH hch));have YI:=Lib.hid (Yt.out.next hrb (Ch.of_below ((Below.refl w3.heap.size w3).alloc (Nat.le_refl _) (.cells #[.string tr.op,.int .i64 tr.val,.string tr.nm,.int .i64 tr.pos,.int .i64 tr.aG,kv] 30)) (by have:=Yt.out.ch.1.size;omega)));obtain ⟨⟨z0,z1,z2,z3,z4,z5⟩,y0,y1,y2,y3,y4,y5⟩:=aA YI.out.r))
   obtain ⟨V,hV⟩: ∃V:World,V=jJ (w3.alloc (.cells #[.string tr.op,.int .i64 tr.val,.string tr.nm,.int .i64 tr.pos,.int .i64 tr.aG,kv] 30)) w.heap.size (.string t'.text) (.int .i64 0) (.string t.text) (.int .i64 t.start) (.int .i64 t'.start) (.slice (some ⟨w3.heap.size,0,none⟩) 1 1):=⟨_,rfl⟩
   have hV':=hV
   unfold jJ at hV'
   rw [←hV']
   clear hV'
   have WX:=lt_of_heap Yt.out.r
   have ZN:=lt_of_heap HX.out.r
   have Q5:Hid (V.heap[w.heap.size]? =some (.cells #[.string t'.text,.int .i64 0,.string t.text,.int .i64 t.start,.int .i64 t'.start,.slice (some ⟨w3.heap.size,0,none⟩) 1 1] 30)):=Lib.hid (by rw [hV];exact pF YI.out.r _ _ _ _ _ _)
   have HVI:Hid ((Tr.eF t'.text t.text t.start t'.start tr).In V w.heap.size (.slice (some ⟨w3.heap.size,0,none⟩) 1 1)):=Lib.hid (by
    rw [hV]
    refine ⟨w3.heap.size,kv,rfl,Nat.le_of_lt WX,(bg _ _ _ _ _ _ _ _ _ (by omega)).trans (heap_alloc_last w3 _),?_⟩
    exact (nY.out.kept (fun k hk hs=>(bg _ _ _ _ _ _ _ _ k (by omega)).trans (aB _ _ k hs)) tr kv).mono (by omega) _ _)
   have Q7:Hid (Ch rb w V∧Rd V rb bv t3):=Lib.hid (by
    rw [hV]
    refine ⟨qV YI.out.ch (Nat.le_refl _) (Nat.le_of_lt hrb) _ _ _ _ _ _,?_⟩
    exact (bg _ _ _ _ _ _ _ _ rb (by omega)).trans (Ap.out.alloc _))
   clear hV z0 z1 z2 z3 z4 z5 y0 y1 y2 y3 y4 y5
   go_wp2_with fail
   exact bodyPost_ret (aI rfl _ _ w.heap.size _ rfl Q5.out rfl) rfl ⟨⟨_,rfl,HVI.out,Q7.out.2⟩,Q7.out.1⟩
  | bad c p=>
   refine wp_region_held (S:=fun w'=>w'.cell? ⟨B3,3,none⟩=some (.string t'.text)∧w'.cell? ⟨B4,3,none⟩=some (.string t.text)∧w'.cell? ⟨B4,1,none⟩=some (.int .i64 t.start)∧w'.cell? ⟨B3,1,none⟩=some (.int .i64 t'.start)) (by kernel_rfl) ?_
   try (change wpAnyH _ _ _ _ _ _ _ _ (World.drew _))
   refine wpAnyH_take (i:=0) (v:=?v0) rfl (by kernel_rfl) (by kernel_rfl) (by kernel_rfl) (fun _ _ _ h=>h) (Or.inl ⟨by kernel_rfl,?hy0⟩) Nq.out.cells ?rest0
   case hy0=>intro w hS;obtain ⟨x0,x1,x2,x3⟩:=hS;go_simp;first | done | with_reducible rfl
   refine wpAnyH_take (i:=1) (v:=?v1) rfl (by kernel_rfl) (by kernel_rfl) (by kernel_rfl) (fun _ _ _ h=>h) (Or.inl ⟨by kernel_rfl,?hy1⟩) Nq.out.cells ?rest1
   case hy1=>intro w hS;obtain ⟨x0,x1,x2,x3⟩:=hS;go_simp;first | done | with_reducible rfl
   refine wpAnyH_take (i:=2) (v:=?v2) rfl (by kernel_rfl) (by kernel_rfl) (by kernel_rfl) (fun _ _ _ h=>h) (Or.inl ⟨by kernel_rfl,?hy2⟩) Nq.out.cells ?rest2
   case hy2=>intro w hS;obtain ⟨x0,x1,x2,x3⟩:=hS;go_simp;first | done | with_reducible rfl
   refine wpAnyH_take (i:=3) (v:=?v3) rfl (by kernel_rfl) (by kernel_rfl) (by kernel_rfl) (fun _ _ _ h=>h) (Or.inl ⟨by kernel_rfl,?hy3⟩) Nq.out.cells ?rest3
   case hy3=>intro w hS;obtain ⟨x0,x1,x2,x3⟩:=hS;go_simp;first | done | with_reducible rfl
   refine wpAnyH_take (i:=4) (v:=?v4) rfl (by kernel_rfl) (by kernel_rfl) (by kernel_rfl) (fun _ _ _ h=>h) (Or.inl ⟨by kernel_rfl,?hy4⟩) Nq.out.cells ?rest4
   case hy4=>intro w hS;obtain ⟨x0,x1,x2,x3⟩:=hS;go_simp;first | done | with_reducible rfl
   refine wpAnyH_take (i:=5) (v:=?v5) rfl (by kernel_rfl) (by kernel_rfl) (by kernel_rfl) (fun _ _ _ h=>h) (Or.inl ⟨by kernel_rfl,?hy5⟩) Nq.out.cells ?rest5
   case hy5=>intro w hS;obtain ⟨x0,x1,x2,x3⟩:=hS;go_simp;first | done | with_reducible rfl
   refine wpAnyH_take (i:=6) (v:=?v6) rfl (by kernel_rfl) (by kernel_rfl) (by kernel_rfl) (fun _ _ _ h=>h) (Or.inl ⟨by kernel_rfl,?hy6⟩) Nq.out.cells ?rest6
   case hy6=>intro w hS;obtain ⟨x0,x1,x2,x3⟩:=hS;go_simp;first | done | with_reducible rfl
   refine wpAnyH_take (i:=7) (v:=?v7) rfl (by kernel_rfl) (by kernel_rfl) (by kernel_rfl) (fun _ _ _ h=>h) (Or.inl ⟨by kernel_rfl,?hy7⟩) Nq.out.cells ?rest7
   case hy7=>intro w hS;obtain ⟨x0,x1,x2,x3⟩:=hS;go_simp;first | done | with_reducible rfl
   refine wpAnyH_take (i:=8) (v:=?v8) rfl (by kernel_rfl) (by kernel_rfl) (by kernel_rfl) (fun _ _ _ h=>h) (Or.inl ⟨by kernel_rfl,?hy8⟩) Nq.out.cells ?rest8
   case hy8=>intro w hS;obtain ⟨x0,x1,x2,x3⟩:=hS;go_simp;first | done | with_reducible rfl
   refine wpAnyH_all (rs:=[9]) (by kernel_rfl) (by simp) ?_
   intro i hi
   obtain rfl:i=9:=by simpa using hi
   refine wpOp_step rfl (fun K' _=>?_)
   go_simp
   go_at_call 73
   refine HE8.out.mono ?_
   rintro e w3 ⟨⟨v,rfl,he⟩,hch⟩
   exact ⟨rfl,⟨_,rfl,he⟩,HX.out.ch.trans (nH hch)⟩
structure Kp (rb:Nat) (w W:World) (L:List (Nat × Obj)):Prop where
 ch:Ch rb w W
 all: ∀x∈L,W.heap[x.1]? =some x.2∧w.heap.size≤x.1
theorem Kp.next {rb:Nat} {w W W':World} {L:List (Nat × Obj)} (h:Kp rb w W L) (hrb:rb<w.heap.size) (hc:Ch rb W W'):Kp rb w W' L where
 ch:=h.ch.trans hc
 all:=fun x hx=>by
  have:=h.all x hx
  exact ⟨(hc.2 _ (lt_of_heap this.1) (by omega)).trans this.1,this.2⟩
theorem Kp.add {rb:Nat} {w W:World} {L:List (Nat × Obj)} (h:Kp rb w W L) (hrb:rb<w.heap.size) (o:Obj):Kp rb w (W.alloc o) ((W.heap.size,o)::L) where
 ch:=h.ch.alloc o (by have:=h.ch.1.size;omega)
 all:=fun x hx=>by
  rcases List.mem_cons.1 hx with rfl | hx
  ·exact ⟨heap_alloc_last W o,h.ch.1.size⟩
  ·have:=h.all x hx
   exact ⟨aN this.1 o,this.2⟩
theorem Kp.start (rb:Nat) (w:World) (hrb:rb<w.heap.size) (o:Obj):Kp rb w (w.alloc o) [(w.heap.size,o)]:=Kp.add ⟨Ch.refl rb w,fun _ h=>by cases h⟩ hrb o
theorem Kp.at {rb:Nat} {w W:World} {L:List (Nat × Obj)} (h:Kp rb w W L) {b:Nat} {o:Obj} (hx:(b,o)∈L):W.heap[b]? =some o:=(h.all _ hx).1
theorem Kp.ge {rb:Nat} {w W:World} {L:List (Nat × Obj)} (h:Kp rb w W L) {b:Nat} {o:Obj} (hx:(b,o)∈L):w.heap.size≤b:=(h.all _ hx).2
def rG (t:Tr) (kv:Value):Obj:= .cells #[.string t.op,.int .i64 t.val,.string t.nm,.int .i64 t.pos,.int .i64 t.aG,kv] 30
def Nl (t:Tk):Obj:= .cells #[.int .i64 t.kind,.int .i64 t.start,.int .i64 t.stop,.string t.text,.int .i64 t.num,.bool t.over] 133
def dw:Obj:= .cells #[.string ⟨#[]⟩,.int .i64 0,.string ⟨#[]⟩,.int .i64 0,.int .i64 0,.slice none 0 0] 30
theorem Tr.In.shape {w:World} {lo:Nat} {t:Tr} {kv:Value} (h:t.In w lo kv): ∃o n,kv= .slice o n n:=by
 cases t with
 | num n p=>exact ⟨none,0,h⟩
 | name n p=>exact ⟨none,0,h⟩
 | un op p a=>obtain ⟨k,ka,e,_⟩:=h;exact ⟨_,_,e⟩
 | bin op p a b=>obtain ⟨k,ka,kb,e,_⟩:=h;exact ⟨_,_,e⟩
 | cond op p a b c=>obtain ⟨k,ka,kb,kc,e,_⟩:=h;exact ⟨_,_,e⟩
 | eF op x p q a=>obtain ⟨k,ka,e,_⟩:=h;exact ⟨_,_,e⟩
theorem gu {l:List Int} {rb:Nat} {bv:Value} {s:Nat→Addr} {t0:Tk} {w:World} (hy:pq l rb bv s t0 w) (t t':Tk) (ht:tok l t.stop=t') (hs:t.stop≤l.length) (W:World) (hc:Ch rb w W) (hr:Rd W rb bv t):
  Calls Tryz.prog 107 #[.pointer (some ⟨rb,0,none⟩)] W fun e w'=>e= .returned (.agg #[.int .i64 t.kind,.int .i64 t.start,.int .i64 t.stop,.string t.text,.int .i64 t.num,.bool t.over])∧Rd w' rb bv t'∧Ch rb W w':=by
 have:=take_any rb bv l t W hr (hy.ch hc hr hs).cx.sl hs
 rw [ht] at this
 exact this
set_option maxHeartbeats 4000000 in
theorem IB {l:List Int} {rb:Nat} {bv:Value} {s:Nat→Addr} {n:Nat} (ih:Dn l rb bv s n) (t:Tk) (c p:Nat) (w:World) (h:rd l n (.bin 1) t=some (.bad c p)) (hy:pq l rb bv s t w):
  Calls Tryz.prog 106 #[.pointer (some ⟨rb,0,none⟩)] w fun e w'=>Out rb w.heap.size bv s (.bad c p) e w'∧Ch rb w w':=by
 have hrb:=lt_of_heap hy.rd
 have HB:Hid (∀o,Calls Tryz.prog 145 #[.pointer (some ⟨rb,0,none⟩),.int .i64 1] (w.alloc o) fun e w'=>Out rb (w.alloc o).heap.size bv s (.bad c p) e w'∧Ch rb (w.alloc o) w'):=Lib.hid (fun o=>ih.bin 1 t _ _ h (by omega) (by omega) (hy.below ((Below.refl _ _).alloc (Nat.le_refl _) o)))
 have HC:Hid (∀o,Ch rb w (w.alloc o)):=Lib.hid (fun o=>(Ch.refl rb w).alloc o (Nat.le_of_lt hrb))
 clear ih h hy
 go_enter Tryz.func106,Tryz.ntmps106
 go_wp2_with fail
 refine (HB.out _).mono ?_
 rintro e w1 ⟨⟨v,rfl,he⟩,hch⟩
 exact ⟨rfl,⟨_,rfl,he⟩,(HC.out _).trans hch⟩
set_option maxHeartbeats 4000000 in
theorem ES {l:List Int} {rb:Nat} {bv:Value} {s:Nat→Addr} {n:Nat} (ih:Dn l rb bv s n) (t t1:Tk) (a:Tr) (w:World) (h:rd l n (.bin 1) t=some (.ok a t1)) (hq: ¬t1.text=iE) (hy:pq l rb bv s t w):
  Calls Tryz.prog 106 #[.pointer (some ⟨rb,0,none⟩)] w fun e w'=>Out rb w.heap.size bv s (.ok a t1) e w'∧Ch rb w w':=by
 have hrb:=lt_of_heap hy.rd
 have HB:Hid (∀o,Calls Tryz.prog 145 #[.pointer (some ⟨rb,0,none⟩),.int .i64 1] (w.alloc o) fun e w'=>Out rb (w.alloc o).heap.size bv s (.ok a t1) e w'∧Ch rb (w.alloc o) w'):=Lib.hid (fun o=>ih.bin 1 t _ _ h (by omega) (by omega) (hy.below ((Below.refl _ _).alloc (Nat.le_refl _) o)))
 have e1:(t1.text.toList==[63])=false:=aX hq
 clear ih h hy hq
 go_enter Tryz.func106,Tryz.ntmps106
 go_wp2_with fail
 refine (HB.out _).mono ?_
 rintro e w1 ⟨⟨ka,rfl,hin,hrd⟩,hch⟩
 obtain ⟨oa,na,rfl⟩:=hin.shape
 have K1:=Lib.hid ((Kp.start rb w hrb dw).next hrb hch)
 have nY:=Lib.hid hin
 have Ap:=Lib.hid hrd
 obtain ⟨⟨c0,c1,c2,c3,c4,c5,c6⟩,_,hb⟩:=Ap.out.facts
 clear hch hin hrd
 have hs1:=lt_of_heap (K1.out.at (List.mem_cons_self ..))
 have SE:Hid (∀o,(w1.alloc o).heap[w.heap.size]? =some dw):=Lib.hid (fun o=>aN (K1.out.at (List.mem_cons_self ..)) o)
 unfold dw at SE
 go_wp2_with (refine aC rfl _ _ rfl rfl w.heap.size a.op a.val a.nm a.pos a.aG _ nY.out.one rfl rfl _ (SE.out _) rfl ?_)
 refine bodyPost_ret (aI rfl _ _ w.heap.size _ rfl (setRow_self (SE.out _) _) rfl) rfl ⟨⟨_,rfl,?_,(Ap.out.alloc _).setRow (by omega) _⟩,((K1.out.add hrb _).ch).setRow (Nat.le_refl _) (Nat.le_of_lt hrb) _⟩
 exact ((nY.out.kept (fun k _ hk=>aB _ _ k hk) a _).setRow (by simp) _).mono (by simp) _ _
set_option maxHeartbeats 4000000 in
theorem Iz {l:List Int} {rb:Nat} {bv:Value} {s:Nat→Addr} {n:Nat} (ih:Dn l rb bv s n) (t t1:Tk) (a:Tr) (w:World) (h:rd l n (.bin 1) t=some (.ok a t1)) (hq:t1.text=iE)
  (c p:Nat) (h2:rd l n .expr (tok l t1.stop)=some (.bad c p)) (hy:pq l rb bv s t w):
  Calls Tryz.prog 106 #[.pointer (some ⟨rb,0,none⟩)] w fun e w'=>Out rb w.heap.size bv s (.bad c p) e w'∧Ch rb w w':=by
 have hrb:=lt_of_heap hy.rd
 have HB:Hid (∀o,Calls Tryz.prog 145 #[.pointer (some ⟨rb,0,none⟩),.int .i64 1] (w.alloc o) fun e w'=>Out rb (w.alloc o).heap.size bv s (.ok a t1) e w'∧Ch rb (w.alloc o) w'):=Lib.hid (fun o=>ih.bin 1 t _ _ h (by omega) (by omega) (hy.below ((Below.refl _ _).alloc (Nat.le_refl _) o)))
 have hs1:=iT l n _ t t1 a h hy.st
 have hs1':=bD l t1.stop hs1
 obtain ⟨u1,hu1⟩: ∃u1,tok l t1.stop=u1:=⟨_,rfl⟩
 rw [hu1] at hs1' h2
 have HT1:=Lib.hid (gu hy t1 u1 hu1 hs1)
 have HE:Hid (∀W,Ch rb w W→Rd W rb bv u1→Calls Tryz.prog 73 #[.pointer (some ⟨rb,0,none⟩)] W fun e w'=>Out rb W.heap.size bv s (.bad c p) e w'∧Ch rb W w'):=Lib.hid (fun W hW hr=>ih.expr u1 _ W h2 (hy.ch hW hr hs1'))
 have e1:(t1.text.toList==[63])=true:=by rw [kE];exact decide_eq_true hq
 clear ih h hy hq h2 hu1 hs1'
 go_enter Tryz.func106,Tryz.ntmps106
 go_wp2_with fail
 refine (HB.out _).mono ?_
 rintro e w1 ⟨⟨ka,rfl,hin,hrd⟩,hch⟩
 obtain ⟨oa,na,rfl⟩:=hin.shape
 have K1:=Lib.hid ((Kp.start rb w hrb dw).next hrb hch)
 have sN:=Lib.hid hin
 have HR1:=Lib.hid hrd
 obtain ⟨⟨c0,c1,c2,c3,c4,c5,c6⟩,_,hb⟩:=HR1.out.facts
 clear hch hin hrd
 have hl1:=lt_of_heap (K1.out.at (List.mem_cons_self ..))
 go_wp2_with fail
 clear c0 c1 c2 c3 c4 c5 c6
 have tq:=Lib.hid (K1.out.add hrb (rG a (.slice oa na na)))
 refine (HT1.out _ tq.out.ch (HR1.out.alloc _)).mono ?_
 rintro e w2 ⟨rfl,hrd,hch⟩
 have K2:=Lib.hid (tq.out.next hrb hch)
 have pR:Hid (a.In w2 (w.heap.size+1) (.slice oa na na)):=Lib.hid ((((sN.out.kept (fun k _ hk=>aB _ _ k hk) a _).mono (by simp) _ _)).ch (by omega) hch)
 have HR2:=Lib.hid hrd
 clear hch hrd K1 tq sN HR1
 go_wp2_with fail
 have K2a:=Lib.hid (K2.out.add hrb (Nl t1))
 refine (HE.out _ K2a.out.ch (HR2.out.alloc _)).mono ?_
 rintro e w3 ⟨⟨v,rfl,he⟩,hch⟩
 exact ⟨rfl,⟨_,rfl,he⟩,K2a.out.ch.trans hch⟩
set_option maxHeartbeats 4000000 in
theorem Iy {l:List Int} {rb:Nat} {bv:Value} {s:Nat→Addr} {n:Nat} (ih:Dn l rb bv s n) (t t1:Tk) (a:Tr) (w:World) (h:rd l n (.bin 1) t=some (.ok a t1)) (hq:t1.text=iE)
  (y:Tr) (t2:Tk) (h2:rd l n .expr (tok l t1.stop)=some (.ok y t2)) (hc: ¬t2.text=o8) (hy:pq l rb bv s t w):
  Calls Tryz.prog 106 #[.pointer (some ⟨rb,0,none⟩)] w fun e w'=>Out rb w.heap.size bv s (refuse t2) e w'∧Ch rb w w':=by
 have hrb:=lt_of_heap hy.rd
 have HB:Hid (∀o,Calls Tryz.prog 145 #[.pointer (some ⟨rb,0,none⟩),.int .i64 1] (w.alloc o) fun e w'=>Out rb (w.alloc o).heap.size bv s (.ok a t1) e w'∧Ch rb (w.alloc o) w'):=Lib.hid (fun o=>ih.bin 1 t _ _ h (by omega) (by omega) (hy.below ((Below.refl _ _).alloc (Nat.le_refl _) o)))
 have hs1:=iT l n _ t t1 a h hy.st
 have hs1':=bD l t1.stop hs1
 obtain ⟨u1,hu1⟩: ∃u1,tok l t1.stop=u1:=⟨_,rfl⟩
 rw [hu1] at hs1' h2
 have HT1:=Lib.hid (gu hy t1 u1 hu1 hs1)
 have HE:Hid (∀W,Ch rb w W→Rd W rb bv u1→Calls Tryz.prog 73 #[.pointer (some ⟨rb,0,none⟩)] W fun e w'=>Out rb W.heap.size bv s (.ok y t2) e w'∧Ch rb W w'):=Lib.hid (fun W hW hr=>ih.expr u1 _ W h2 (hy.ch hW hr hs1'))
 have hs2:=iT l n _ u1 t2 y h2 hs1'
 have HN:Hid (∀W,Ch rb w W→Rd W rb bv t2→Calls Tryz.prog 146 #[.pointer (some ⟨rb,0,none⟩),.string ⟨#[58]⟩] W fun e w'=>Bad s t2.code t2.start e w'∧Below W.heap.size W w'):=Lib.hid (fun W hW hr=>uq rb bv t2 _ s W hr (hy.ch hW hr hs2).cx.er hc)
 have e1:(t1.text.toList==[63])=true:=by rw [kE];exact decide_eq_true hq
 clear ih h hy hq h2 hc hu1 hs1'
 go_enter Tryz.func106,Tryz.ntmps106
 go_wp2_with fail
 refine (HB.out _).mono ?_
 rintro e w1 ⟨⟨ka,rfl,hin,hrd⟩,hch⟩
 obtain ⟨oa,na,rfl⟩:=hin.shape
 have K1:=Lib.hid ((Kp.start rb w hrb dw).next hrb hch)
 have sN:=Lib.hid hin
 have HR1:=Lib.hid hrd
 obtain ⟨⟨c0,c1,c2,c3,c4,c5,c6⟩,_,hb⟩:=HR1.out.facts
 clear hch hin hrd
 have hl1:=lt_of_heap (K1.out.at (List.mem_cons_self ..))
 go_wp2_with fail
 clear c0 c1 c2 c3 c4 c5 c6
 have tq:=Lib.hid (K1.out.add hrb (rG a (.slice oa na na)))
 refine (HT1.out _ tq.out.ch (HR1.out.alloc _)).mono ?_
 rintro e w2 ⟨rfl,hrd,hch⟩
 have K2:=Lib.hid (tq.out.next hrb hch)
 have pR:Hid (a.In w2 (w.heap.size+1) (.slice oa na na)):=Lib.hid ((((sN.out.kept (fun k _ hk=>aB _ _ k hk) a _).mono (by simp) _ _)).ch (by omega) hch)
 have HR2:=Lib.hid hrd
 clear hch hrd K1 tq sN HR1
 go_wp2_with fail
 have K2a:=Lib.hid (K2.out.add hrb (Nl t1))
 refine (HE.out _ K2a.out.ch (HR2.out.alloc _)).mono ?_
 rintro e w3 ⟨⟨ky,rfl,hin,hrd⟩,hch⟩
 obtain ⟨oy,ny,rfl⟩:=hin.shape
 have K3:=Lib.hid (K2a.out.next hrb hch)
 have qC:Hid (a.In w3 (w.heap.size+1) (.slice oa na na)):=Lib.hid ((pR.out.kept (fun k _ hk=>aB _ _ k hk) a _).ch (by omega) hch)
 have Gq:Hid (y.In w3 (w.heap.size+1) (.slice oy ny ny)):=Lib.hid (hin.mono (by have:=K2.out.ch.1.size;simp;have:=lt_of_heap (K2.out.at (List.mem_cons_of_mem _ (List.mem_cons_self ..)));omega) _ _)
 have HR3:=Lib.hid hrd
 clear hch hin hrd K2 K2a pR HR2
 go_wp2_with fail
 have JC:=Lib.hid (K3.out.add hrb (rG y (.slice oy ny ny)))
 refine (HN.out _ JC.out.ch (HR3.out.alloc _)).mono ?_
 rintro e w4 ⟨⟨v,rfl,he⟩,hb4⟩
 exact ⟨rfl,⟨_,rfl,he⟩,JC.out.ch.step hb4 (by have:=JC.out.ch.1.size;omega)⟩
set_option maxHeartbeats 4000000 in
theorem Iw {l:List Int} {rb:Nat} {bv:Value} {s:Nat→Addr} {n:Nat} (ih:Dn l rb bv s n) (t t1:Tk) (a:Tr) (w:World) (h:rd l n (.bin 1) t=some (.ok a t1)) (hq:t1.text=iE)
  (y:Tr) (t2:Tk) (h2:rd l n .expr (tok l t1.stop)=some (.ok y t2)) (hc:t2.text=o8) (c p:Nat) (h3:rd l n .cond (tok l t2.stop)=some (.bad c p)) (hy:pq l rb bv s t w):
  Calls Tryz.prog 106 #[.pointer (some ⟨rb,0,none⟩)] w fun e w'=>Out rb w.heap.size bv s (.bad c p) e w'∧Ch rb w w':=by
 have hrb:=lt_of_heap hy.rd
 have HB:Hid (∀o,Calls Tryz.prog 145 #[.pointer (some ⟨rb,0,none⟩),.int .i64 1] (w.alloc o) fun e w'=>Out rb (w.alloc o).heap.size bv s (.ok a t1) e w'∧Ch rb (w.alloc o) w'):=Lib.hid (fun o=>ih.bin 1 t _ _ h (by omega) (by omega) (hy.below ((Below.refl _ _).alloc (Nat.le_refl _) o)))
 have hs1:=iT l n _ t t1 a h hy.st
 have hs1':=bD l t1.stop hs1
 obtain ⟨u1,hu1⟩: ∃u1,tok l t1.stop=u1:=⟨_,rfl⟩
 rw [hu1] at hs1' h2
 have HT1:=Lib.hid (gu hy t1 u1 hu1 hs1)
 have HE:Hid (∀W,Ch rb w W→Rd W rb bv u1→Calls Tryz.prog 73 #[.pointer (some ⟨rb,0,none⟩)] W fun e w'=>Out rb W.heap.size bv s (.ok y t2) e w'∧Ch rb W w'):=Lib.hid (fun W hW hr=>ih.expr u1 _ W h2 (hy.ch hW hr hs1'))
 have hs2:=iT l n _ u1 t2 y h2 hs1'
 have hs2':=bD l t2.stop hs2
 obtain ⟨u2,hu2⟩: ∃u2,tok l t2.stop=u2:=⟨_,rfl⟩
 rw [hu2] at hs2' h3
 have HN:Hid (∀W,Ch rb w W→Rd W rb bv t2→Calls Tryz.prog 146 #[.pointer (some ⟨rb,0,none⟩),.string ⟨#[58]⟩] W fun e w'=>e= .returned (.tuple #[])∧Rd w' rb bv u2∧Ch rb W w'):=Lib.hid (fun W hW hr=>by
  have:=nJ rb bv l t2 _ W hr (hy.ch hW hr hs2).cx.sl hs2 hc
  rw [hu2] at this
  exact this)
 have HD:Hid (∀W,Ch rb w W→Rd W rb bv u2→Calls Tryz.prog 106 #[.pointer (some ⟨rb,0,none⟩)] W fun e w'=>Out rb W.heap.size bv s (.bad c p) e w'∧Ch rb W w'):=Lib.hid (fun W hW hr=>ih.cond u2 _ W h3 (hy.ch hW hr hs2'))
 have e1:(t1.text.toList==[63])=true:=by rw [kE];exact decide_eq_true hq
 clear ih h hy hq h2 hc hu1 hs1' h3 hu2
 go_enter Tryz.func106,Tryz.ntmps106
 go_wp2_with fail
 refine (HB.out _).mono ?_
 rintro e w1 ⟨⟨ka,rfl,hin,hrd⟩,hch⟩
 obtain ⟨oa,na,rfl⟩:=hin.shape
 have K1:=Lib.hid ((Kp.start rb w hrb dw).next hrb hch)
 have sN:=Lib.hid hin
 have HR1:=Lib.hid hrd
 obtain ⟨⟨c0,c1,c2,c3,c4,c5,c6⟩,_,hb⟩:=HR1.out.facts
 clear hch hin hrd
 have hl1:=lt_of_heap (K1.out.at (List.mem_cons_self ..))
 go_wp2_with fail
 clear c0 c1 c2 c3 c4 c5 c6
 have tq:=Lib.hid (K1.out.add hrb (rG a (.slice oa na na)))
 refine (HT1.out _ tq.out.ch (HR1.out.alloc _)).mono ?_
 rintro e w2 ⟨rfl,hrd,hch⟩
 have K2:=Lib.hid (tq.out.next hrb hch)
 have pR:Hid (a.In w2 (w.heap.size+1) (.slice oa na na)):=Lib.hid ((((sN.out.kept (fun k _ hk=>aB _ _ k hk) a _).mono (by simp) _ _)).ch (by omega) hch)
 have HR2:=Lib.hid hrd
 clear hch hrd K1 tq sN HR1
 go_wp2_with fail
 have K2a:=Lib.hid (K2.out.add hrb (Nl t1))
 refine (HE.out _ K2a.out.ch (HR2.out.alloc _)).mono ?_
 rintro e w3 ⟨⟨ky,rfl,hin,hrd⟩,hch⟩
 obtain ⟨oy,ny,rfl⟩:=hin.shape
 have K3:=Lib.hid (K2a.out.next hrb hch)
 have qC:Hid (a.In w3 (w.heap.size+1) (.slice oa na na)):=Lib.hid ((pR.out.kept (fun k _ hk=>aB _ _ k hk) a _).ch (by omega) hch)
 have Gq:Hid (y.In w3 (w.heap.size+1) (.slice oy ny ny)):=Lib.hid (hin.mono (by have:=K2.out.ch.1.size;simp;have:=lt_of_heap (K2.out.at (List.mem_cons_of_mem _ (List.mem_cons_self ..)));omega) _ _)
 have HR3:=Lib.hid hrd
 clear hch hin hrd K2 K2a pR HR2
 go_wp2_with fail
 have JC:=Lib.hid (K3.out.add hrb (rG y (.slice oy ny ny)))
 refine (HN.out _ JC.out.ch (HR3.out.alloc _)).mono ?_
 rintro e w4 ⟨rfl,hrd,hch⟩
 have K4:=Lib.hid (JC.out.next hrb hch)
 have Az:Hid (a.In w4 (w.heap.size+1) (.slice oa na na)):=Lib.hid ((qC.out.kept (fun k _ hk=>aB _ _ k hk) a _).ch (by omega) hch)
 have TY:Hid (y.In w4 (w.heap.size+1) (.slice oy ny ny)):=Lib.hid ((Gq.out.kept (fun k _ hk=>aB _ _ k hk) y _).ch (by omega) hch)
 have HR4:=Lib.hid hrd
 clear hch hrd K3 JC qC Gq HR3
 go_wp2_with fail
 refine (HD.out _ K4.out.ch HR4.out).mono ?_
 rintro e w5 ⟨⟨v,rfl,he⟩,hch⟩
 exact ⟨rfl,⟨_,rfl,he⟩,K4.out.ch.trans hch⟩
set_option maxHeartbeats 4000000 in
theorem Iu {l:List Int} {rb:Nat} {bv:Value} {s:Nat→Addr} {n:Nat} (ih:Dn l rb bv s n) (t t1:Tk) (a:Tr) (w:World) (h:rd l n (.bin 1) t=some (.ok a t1)) (hq:t1.text=iE)
  (y:Tr) (t2:Tk) (h2:rd l n .expr (tok l t1.stop)=some (.ok y t2)) (hc:t2.text=o8) (z:Tr) (t3:Tk) (h3:rd l n .cond (tok l t2.stop)=some (.ok z t3)) (hy:pq l rb bv s t w):
  Calls Tryz.prog 106 #[.pointer (some ⟨rb,0,none⟩)] w fun e w'=>Out rb w.heap.size bv s (.ok (.cond t1.text t1.start a y z) t3) e w'∧Ch rb w w':=by
 have hrb:=lt_of_heap hy.rd
 have HB:Hid (∀o,Calls Tryz.prog 145 #[.pointer (some ⟨rb,0,none⟩),.int .i64 1] (w.alloc o) fun e w'=>Out rb (w.alloc o).heap.size bv s (.ok a t1) e w'∧Ch rb (w.alloc o) w'):=Lib.hid (fun o=>ih.bin 1 t _ _ h (by omega) (by omega) (hy.below ((Below.refl _ _).alloc (Nat.le_refl _) o)))
 have hs1:=iT l n _ t t1 a h hy.st
 have hs1':=bD l t1.stop hs1
 obtain ⟨u1,hu1⟩: ∃u1,tok l t1.stop=u1:=⟨_,rfl⟩
 rw [hu1] at hs1' h2
 have HT1:=Lib.hid (gu hy t1 u1 hu1 hs1)
 have HE:Hid (∀W,Ch rb w W→Rd W rb bv u1→Calls Tryz.prog 73 #[.pointer (some ⟨rb,0,none⟩)] W fun e w'=>Out rb W.heap.size bv s (.ok y t2) e w'∧Ch rb W w'):=Lib.hid (fun W hW hr=>ih.expr u1 _ W h2 (hy.ch hW hr hs1'))
 have hs2:=iT l n _ u1 t2 y h2 hs1'
 have hs2':=bD l t2.stop hs2
 obtain ⟨u2,hu2⟩: ∃u2,tok l t2.stop=u2:=⟨_,rfl⟩
 rw [hu2] at hs2' h3
 have HN:Hid (∀W,Ch rb w W→Rd W rb bv t2→Calls Tryz.prog 146 #[.pointer (some ⟨rb,0,none⟩),.string ⟨#[58]⟩] W fun e w'=>e= .returned (.tuple #[])∧Rd w' rb bv u2∧Ch rb W w'):=Lib.hid (fun W hW hr=>by
  have:=nJ rb bv l t2 _ W hr (hy.ch hW hr hs2).cx.sl hs2 hc
  rw [hu2] at this
  exact this)
 have HD:Hid (∀W,Ch rb w W→Rd W rb bv u2→Calls Tryz.prog 106 #[.pointer (some ⟨rb,0,none⟩)] W fun e w'=>Out rb W.heap.size bv s (.ok z t3) e w'∧Ch rb W w'):=Lib.hid (fun W hW hr=>ih.cond u2 _ W h3 (hy.ch hW hr hs2'))
 have e1:(t1.text.toList==[63])=true:=by rw [kE];exact decide_eq_true hq
 clear ih h hy hq h2 hc hu1 hs1' h3 hu2
 go_enter Tryz.func106,Tryz.ntmps106
 go_wp2_with fail
 refine (HB.out _).mono ?_
 rintro e w1 ⟨⟨ka,rfl,hin,hrd⟩,hch⟩
 obtain ⟨oa,na,rfl⟩:=hin.shape
 have K1:=Lib.hid ((Kp.start rb w hrb dw).next hrb hch)
 have sN:=Lib.hid hin
 have HR1:=Lib.hid hrd
 obtain ⟨⟨c0,c1,c2,c3,c4,c5,c6⟩,_,hb⟩:=HR1.out.facts
 clear hch hin hrd
 have hl1:=lt_of_heap (K1.out.at (List.mem_cons_self ..))
 go_wp2_with fail
 clear c0 c1 c2 c3 c4 c5 c6
 have tq:=Lib.hid (K1.out.add hrb (rG a (.slice oa na na)))
 refine (HT1.out _ tq.out.ch (HR1.out.alloc _)).mono ?_
 rintro e w2 ⟨rfl,hrd,hch⟩
 have K2:=Lib.hid (tq.out.next hrb hch)
 have pR:Hid (a.In w2 (w.heap.size+1) (.slice oa na na)):=Lib.hid ((((sN.out.kept (fun k _ hk=>aB _ _ k hk) a _).mono (by simp) _ _)).ch (by omega) hch)
 have HR2:=Lib.hid hrd
 clear hch hrd K1 tq sN HR1
 go_wp2_with fail
 have K2a:=Lib.hid (K2.out.add hrb (Nl t1))
 refine (HE.out _ K2a.out.ch (HR2.out.alloc _)).mono ?_
 rintro e w3 ⟨⟨ky,rfl,hin,hrd⟩,hch⟩
 obtain ⟨oy,ny,rfl⟩:=hin.shape
 have K3:=Lib.hid (K2a.out.next hrb hch)
 have qC:Hid (a.In w3 (w.heap.size+1) (.slice oa na na)):=Lib.hid ((pR.out.kept (fun k _ hk=>aB _ _ k hk) a _).ch (by omega) hch)
 have Gq:Hid (y.In w3 (w.heap.size+1) (.slice oy ny ny)):=Lib.hid (hin.mono (by have:=K2.out.ch.1.size;simp;have:=lt_of_heap (K2.out.at (List.mem_cons_of_mem _ (List.mem_cons_self ..)));omega) _ _)
 have HR3:=Lib.hid hrd
 clear hch hin hrd K2 K2a pR HR2
 go_wp2_with fail
 have JC:=Lib.hid (K3.out.add hrb (rG y (.slice oy ny ny)))
 refine (HN.out _ JC.out.ch (HR3.out.alloc _)).mono ?_
 rintro e w4 ⟨rfl,hrd,hch⟩
 have K4:=Lib.hid (JC.out.next hrb hch)
 have Az:Hid (a.In w4 (w.heap.size+1) (.slice oa na na)):=Lib.hid ((qC.out.kept (fun k _ hk=>aB _ _ k hk) a _).ch (by omega) hch)
 have TY:Hid (y.In w4 (w.heap.size+1) (.slice oy ny ny)):=Lib.hid ((Gq.out.kept (fun k _ hk=>aB _ _ k hk) y _).ch (by omega) hch)
 have HR4:=Lib.hid hrd
 clear hch hrd K3 JC qC Gq HR3
 go_wp2_with fail
 refine (HD.out _ K4.out.ch HR4.out).mono ?_
 rintro e w5 ⟨⟨kz,rfl,hin,hrd⟩,hch⟩
 obtain ⟨oz,nz,rfl⟩:=hin.shape
 have K5:=Lib.hid (K4.out.next hrb hch)
 have IV:Hid (a.In w5 (w.heap.size+1) (.slice oa na na)):=Lib.hid (Az.out.ch (by omega) hch)
 have JQ:Hid (y.In w5 (w.heap.size+1) (.slice oy ny ny)):=Lib.hid (TY.out.ch (by omega) hch)
 have HIZ5:Hid (z.In w5 (w.heap.size+1) (.slice oz nz nz)):=Lib.hid (hin.mono (by have:=lt_of_heap (K4.out.at (List.mem_cons_of_mem _ (List.mem_cons_of_mem _ (List.mem_cons_of_mem _ (List.mem_cons_self ..)))));omega) _ _)
 have Jr:=Lib.hid hrd
 clear hch hin hrd K4 Az TY HR4
 obtain ⟨⟨y0,y1,y2,y3,y4,y5⟩,_⟩:=aA (K5.out.at (List.mem_cons_self ..))
 obtain ⟨⟨k0,k1,k2,k3,k4,k5⟩,_⟩:=aA (K5.out.at (List.mem_cons_of_mem _ (List.mem_cons_self ..)))
 obtain ⟨⟨x0,x1,x2,x3,x4,x5⟩,_⟩:=aA (K5.out.at (List.mem_cons_of_mem _ (List.mem_cons_of_mem _ (List.mem_cons_self ..))))
 have q1:=lt_of_heap (K5.out.at (List.mem_cons_self ..))
 have q2:=lt_of_heap (K5.out.at (List.mem_cons_of_mem _ (List.mem_cons_self ..)))
 have q3:=lt_of_heap (K5.out.at (List.mem_cons_of_mem _ (List.mem_cons_of_mem _ (List.mem_cons_self ..))))
 have hR:=K5.out.at (List.mem_cons_of_mem _ (List.mem_cons_of_mem _ (List.mem_cons_of_mem _ (List.mem_cons_self ..))))
 have SE:Hid (∀o o',((w5.alloc o).alloc o').heap[w.heap.size]? =some dw):=Lib.hid (fun o o'=>aN (aN hR o) o')
 unfold dw at SE
 clear hR
 generalize w1.heap.size=A1 at*
 generalize w2.heap.size=A2 at*
 generalize w3.heap.size=A3 at*
 go_wp2_with (refine aC rfl _ _ rfl rfl w.heap.size t1.text 0 ⟨#[]⟩ t1.start 0 (.slice (some ⟨w5.heap.size+1,0,none⟩) 3 3) rfl rfl rfl _ (SE.out _ _) rfl ?_)
 have h5:=K5.out.ch.1.size
 refine bodyPost_ret (aI rfl _ _ w.heap.size _ rfl (setRow_self (SE.out _ _) _) rfl) rfl ⟨⟨_,rfl,?_,((Jr.out.alloc _).alloc _).setRow (by omega) _⟩,(((K5.out.add hrb _).add hrb _).ch).setRow (Nat.le_refl _) (Nat.le_of_lt hrb) _⟩
 have hN: ∀{tr:Tr} {kv:Value} (_:tr.In w5 (w.heap.size+1) kv) (o o':Obj) (c:Array Value),tr.In (((w5.alloc o).alloc o').setRow w.heap.size c) w.heap.size kv:=fun {tr kv} hi o o' c=>
  ((hi.kept (fun k _ hk=>(aB _ _ k (by simp;omega)).trans (aB _ _ k hk)) tr kv).setRow (by omega) c).mono (by omega) _ _
 refine ⟨w5.heap.size+1,_,_,_,rfl,by omega,?_,hN IV.out _ _ _,hN JQ.out _ _ _,hN HIZ5.out _ _ _⟩
 show (((w5.heap.push _).push _).modify w.heap.size _)[w5.heap.size+1]? =_
 rw [Array.getElem?_modify,if_neg (by omega),Array.getElem?_push,if_pos (by simp)]
 rfl
theorem uy (k st en:Int) (x:ByteArray) (n:Int) (o:Bool) (w:World):(Instr.field 133 (.agg #[.int .i64 k,.int .i64 st,.int .i64 en,.string x,.int .i64 n,.bool o]) 1).run Tryz.prog w= .ok (.int .i64 st) w:=by kernel_rfl
theorem iO (rb:Nat) (w:World) (o:Obj) (hrb:rb<w.heap.size):Ch rb w (w.alloc o):=(Ch.refl rb w).alloc o (Nat.le_of_lt hrb)
set_option maxHeartbeats 4000000 in
theorem Pn {l:List Int} {rb:Nat} {bv:Value} {s:Nat→Addr} (t:Tk) (w:World) (hk:t.kind=2) (ho:t.over=false) (hg:gG l t.stop=false) (hy:pq l rb bv s t w):
  Calls Tryz.prog 172 #[.pointer (some ⟨rb,0,none⟩)] w fun e w'=>Out rb w.heap.size bv s (.ok (.num t.num t.start) (tok l t.stop)) e w'∧Ch rb w w':=by
 have hrb:=lt_of_heap hy.rd
 have HB:Hid (∀W,Below w.heap.size w W→Calls Tryz.prog 188 #[.pointer (some ⟨rb,0,none⟩)] W fun e w'=>Good rb W.heap.size bv (.num t.num t.start) (tok l t.stop) e w'∧Ch rb W w'):=Lib.hid (fun W hW=>Ac rb bv l t W (hy.below hW).rd (hy.below hW).cx.sl hy.st ho hg)
 have HC:Hid (∀o,Below w.heap.size w (w.alloc o)):=Lib.hid (fun o=>(Below.refl _ _).alloc (Nat.le_refl _) o)
 obtain ⟨⟨c0,c1,c2,c3,c4,c5,c6⟩,_,hb⟩:=hy.rd.facts
 rw [hk] at c1
 generalize tok l t.stop=t' at*
 clear hy hg ho hk
 go_enter Tryz.func172,Tryz.ntmps172
 go_wp2_with fail
 refine (HB.out _ (HC.out _)).mono ?_
 rintro e w1 ⟨⟨ka,rfl,hin,hrd⟩,hch⟩
 obtain rfl:ka= .slice none 0 0:=hin
 have K1:=Lib.hid ((Kp.start rb w hrb dw).next hrb hch)
 have HR1:=Lib.hid hrd
 have HZ:Hid (w1.heap[w.heap.size]? =some dw):=Lib.hid (K1.out.at (List.mem_cons_self ..))
 unfold dw at HZ
 clear hrd hch c0 c1 c2 c3 c4 c5 c6
 go_wp2_with (refine aC rfl _ _ rfl rfl w.heap.size ⟨#[110,117,109]⟩ t.num ⟨#[]⟩ t.start 0 (.slice none 0 0) rfl rfl rfl _ HZ.out rfl ?_)
 exact bodyPost_ret (aI rfl _ _ w.heap.size _ rfl (setRow_self HZ.out _) rfl) rfl ⟨⟨_,rfl,rfl,HR1.out.setRow (by omega) _⟩,K1.out.ch.setRow (Nat.le_refl _) (Nat.le_of_lt hrb) _⟩
set_option maxHeartbeats 4000000 in
theorem Lp {l:List Int} {rb:Nat} {bv:Value} {s:Nat→Addr} (t:Tk) (w:World) (hk:t.kind=2) (ho:t.over=true) (hy:pq l rb bv s t w):
  Calls Tryz.prog 172 #[.pointer (some ⟨rb,0,none⟩)] w fun e w'=>Out rb w.heap.size bv s (.bad 6 t.start) e w'∧Ch rb w w':=by
 have hrb:=lt_of_heap hy.rd
 have HB:Hid (∀W,Below w.heap.size w W→Calls Tryz.prog 188 #[.pointer (some ⟨rb,0,none⟩)] W fun e w'=>Out rb W.heap.size bv s (.bad 6 t.start) e w'∧Ch rb W w'):=Lib.hid (fun W hW=>yc rb bv t s W (hy.below hW).rd (hy.below hW).cx.er ho)
 have HC:Hid (∀o,Below w.heap.size w (w.alloc o)):=Lib.hid (fun o=>(Below.refl _ _).alloc (Nat.le_refl _) o)
 obtain ⟨⟨c0,c1,c2,c3,c4,c5,c6⟩,_,hb⟩:=hy.rd.facts
 rw [hk] at c1
 go_enter Tryz.func172,Tryz.ntmps172
 go_wp2_with fail
 refine (HB.out _ (HC.out _)).mono ?_
 rintro e w1 ⟨⟨v,rfl,he⟩,hch⟩
 exact ⟨rfl,⟨_,rfl,he⟩,(iO rb w _ hrb).trans hch⟩
set_option maxHeartbeats 4000000 in
theorem Ls {l:List Int} {rb:Nat} {bv:Value} {s:Nat→Addr} (t:Tk) (w:World) (hk:t.kind=2) (ho:t.over=false) (hg:gG l t.stop=true) (hy:pq l rb bv s t w):
  Calls Tryz.prog 172 #[.pointer (some ⟨rb,0,none⟩)] w fun e w'=>Out rb w.heap.size bv s (.bad 3 t.stop) e w'∧Ch rb w w':=by
 have hrb:=lt_of_heap hy.rd
 have HB:Hid (∀W,Below w.heap.size w W→Calls Tryz.prog 188 #[.pointer (some ⟨rb,0,none⟩)] W fun e w'=>Out rb W.heap.size bv s (.bad 3 t.stop) e w'∧Ch rb W w'):=Lib.hid (fun W hW=>yg rb bv l t s W (hy.below hW).rd (hy.below hW).cx.sl hy.st (hy.below hW).cx.er ho hg)
 have HC:Hid (∀o,Below w.heap.size w (w.alloc o)):=Lib.hid (fun o=>(Below.refl _ _).alloc (Nat.le_refl _) o)
 obtain ⟨⟨c0,c1,c2,c3,c4,c5,c6⟩,_,hb⟩:=hy.rd.facts
 rw [hk] at c1
 go_enter Tryz.func172,Tryz.ntmps172
 go_wp2_with fail
 refine (HB.out _ (HC.out _)).mono ?_
 rintro e w1 ⟨⟨v,rfl,he⟩,hch⟩
 exact ⟨rfl,⟨_,rfl,he⟩,(iO rb w _ hrb).trans hch⟩
set_option maxHeartbeats 4000000 in
theorem Lr {l:List Int} {rb:Nat} {bv:Value} {s:Nat→Addr} (t:Tk) (w:World) (hk:t.kind=3) (hy:pq l rb bv s t w):
  Calls Tryz.prog 172 #[.pointer (some ⟨rb,0,none⟩)] w fun e w'=>Out rb w.heap.size bv s (.ok (.name t.text t.start) (tok l t.stop)) e w'∧Ch rb w w':=by
 have hrb:=lt_of_heap hy.rd
 have HB:=Lib.hid (gu hy t _ rfl hy.st)
 have HR0:=Lib.hid hy.rd
 obtain ⟨⟨c0,c1,c2,c3,c4,c5,c6⟩,_,hb⟩:=hy.rd.facts
 rw [hk] at c1
 generalize tok l t.stop=t' at*
 clear hy
 go_enter Tryz.func172,Tryz.ntmps172
 go_wp2_with fail
 refine (HB.out _ (iO rb w _ hrb) (HR0.out.alloc _)).mono ?_
 rintro e w1 ⟨rfl,hrd,hch⟩
 have K1:=Lib.hid ((Kp.start rb w hrb dw).next hrb hch)
 have HR1:=Lib.hid hrd
 have HZ:Hid (∀o,(w1.alloc o).heap[w.heap.size]? =some dw):=Lib.hid (fun o=>aN (K1.out.at (List.mem_cons_self ..)) o)
 unfold dw at HZ
 clear hrd hch c0 c1 c2 c3 c4 c5 c6 hk
 go_wp2_with (refine aC rfl _ _ rfl rfl w.heap.size ⟨#[110,97,109,101]⟩ 0 t.text t.start 0 (.slice none 0 0) rfl rfl rfl _ (HZ.out _) rfl ?_)
 exact bodyPost_ret (aI rfl _ _ w.heap.size _ rfl (setRow_self (HZ.out _) _) rfl) rfl ⟨⟨_,rfl,rfl,(HR1.out.alloc _).setRow (by omega) _⟩,((K1.out.add hrb _).ch).setRow (Nat.le_refl _) (Nat.le_of_lt hrb) _⟩
set_option maxHeartbeats 4000000 in
theorem Eu {l:List Int} {rb:Nat} {bv:Value} {s:Nat→Addr} {n:Nat} (ih:Dn l rb bv s n) (t:Tk) (w:World) (hk2:t.kind≠2) (hk3:t.kind≠3) (hu: ¬jo t.text=ak) (c p:Nat) (h:rd l n .iR (tok l t.stop)=some (.bad c p)) (hy:pq l rb bv s t w):
  Calls Tryz.prog 172 #[.pointer (some ⟨rb,0,none⟩)] w fun e w'=>Out rb w.heap.size bv s (.bad c p) e w'∧Ch rb w w':=by
 have hrb:=lt_of_heap hy.rd
 have HB:=Lib.hid (gu hy t _ rfl hy.st)
 have HU:Hid (∀W,Calls Tryz.prog 189 #[.string t.text] W fun e w'=>e= .returned (.string (jo t.text))∧W=w'):=Lib.hid (fun W=>kH t.text W)
 have hst:=bD l t.stop hy.st
 have eu:(jo t.text).toList.isEmpty=false:=by have:=aX (l:=[]) hu;simpa using this
 have HO:Hid (∀W,Ch rb w W→Rd W rb bv (tok l t.stop)→Calls Tryz.prog 172 #[.pointer (some ⟨rb,0,none⟩)] W fun e w'=>Out rb W.heap.size bv s (.bad c p) e w'∧Ch rb W w'):=Lib.hid (fun W hW hr=>ih.iR _ _ W h (hy.ch hW hr hst))
 have HR0:=Lib.hid hy.rd
 obtain ⟨⟨c0,c1,c2,c3,c4,c5,c6⟩,_,hb⟩:=hy.rd.facts
 have e2:(t.kind==2)=false:=by simpa using hk2
 have e3:(t.kind==3)=false:=by simpa using hk3
 generalize tok l t.stop=t' at*
 generalize jo t.text=u at*
 clear hy hk2 hk3 ih h hu
 have hfs:=uy t.kind t.start t.stop t.text t.num t.over
 go_enter Tryz.func172,Tryz.ntmps172
 go_wp2_with (go_at_call 189;refine (HU.out _).mono ?_;rintro e w' ⟨rfl,rfl⟩)
 refine (HB.out _ (iO rb w _ hrb) (HR0.out.alloc _)).mono ?_
 rintro e w1 ⟨rfl,hrd,hch⟩
 have K1:=Lib.hid ((Kp.start rb w hrb dw).next hrb hch)
 have HR1:=Lib.hid hrd
 clear hrd hch c0 c1 c2 c3 c4 c5 c6
 go_wp2_with fail
 refine (HO.out _ K1.out.ch HR1.out).mono ?_
 rintro e w2 ⟨⟨v,rfl,he⟩,hch⟩
 exact ⟨rfl,⟨_,rfl,he⟩,K1.out.ch.trans hch⟩
set_option maxHeartbeats 4000000 in
theorem UA {l:List Int} {rb:Nat} {bv:Value} {s:Nat→Addr} {n:Nat} (ih:Dn l rb bv s n) (t:Tk) (w:World) (hk2:t.kind≠2) (hk3:t.kind≠3) (hu: ¬jo t.text=ak) (a:Tr) (t1:Tk) (h:rd l n .iR (tok l t.stop)=some (.ok a t1)) (hy:pq l rb bv s t w):
  Calls Tryz.prog 172 #[.pointer (some ⟨rb,0,none⟩)] w fun e w'=>Out rb w.heap.size bv s (.ok (.un (jo t.text) t.start a) t1) e w'∧Ch rb w w':=by
 have hrb:=lt_of_heap hy.rd
 have HB:=Lib.hid (gu hy t _ rfl hy.st)
 have HU:Hid (∀W,Calls Tryz.prog 189 #[.string t.text] W fun e w'=>e= .returned (.string (jo t.text))∧W=w'):=Lib.hid (fun W=>kH t.text W)
 have hst:=bD l t.stop hy.st
 have eu:(jo t.text).toList.isEmpty=false:=by have:=aX (l:=[]) hu;simpa using this
 have HO:Hid (∀W,Ch rb w W→Rd W rb bv (tok l t.stop)→Calls Tryz.prog 172 #[.pointer (some ⟨rb,0,none⟩)] W fun e w'=>Out rb W.heap.size bv s (.ok a t1) e w'∧Ch rb W w'):=Lib.hid (fun W hW hr=>ih.iR _ _ W h (hy.ch hW hr hst))
 have HR0:=Lib.hid hy.rd
 obtain ⟨⟨c0,c1,c2,c3,c4,c5,c6⟩,_,hb⟩:=hy.rd.facts
 have e2:(t.kind==2)=false:=by simpa using hk2
 have e3:(t.kind==3)=false:=by simpa using hk3
 generalize tok l t.stop=t' at*
 generalize jo t.text=u at*
 clear hy hk2 hk3 ih h hu
 have hfs:=uy t.kind t.start t.stop t.text t.num t.over
 go_enter Tryz.func172,Tryz.ntmps172
 go_wp2_with (go_at_call 189;refine (HU.out _).mono ?_;rintro e w' ⟨rfl,rfl⟩)
 refine (HB.out _ (iO rb w _ hrb) (HR0.out.alloc _)).mono ?_
 rintro e w1 ⟨rfl,hrd,hch⟩
 have K1:=Lib.hid ((Kp.start rb w hrb dw).next hrb hch)
 have HR1:=Lib.hid hrd
 clear hrd hch c0 c1 c2 c3 c4 c5 c6
 go_wp2_with fail
 refine (HO.out _ K1.out.ch HR1.out).mono ?_
 rintro e w2 ⟨⟨ka,rfl,hin,hrd⟩,hch⟩
 obtain ⟨oa,na,rfl⟩:=hin.shape
 have K2:=Lib.hid (K1.out.next hrb hch)
 have sN:=Lib.hid (hin.mono (by have:=lt_of_heap (K1.out.at (List.mem_cons_self ..));omega:w.heap.size+1≤w1.heap.size) _ _)
 have HR2:=Lib.hid hrd
 have HZ:Hid (∀o,(w2.alloc o).heap[w.heap.size]? =some dw):=Lib.hid (fun o=>aN (K2.out.at (List.mem_cons_self ..)) o)
 unfold dw at HZ
 have h2:=lt_of_heap (K2.out.at (List.mem_cons_self ..))
 clear hin hrd hch
 go_wp2_with (refine aC rfl _ _ rfl rfl w.heap.size u 0 ⟨#[]⟩ t.start 0 (.slice (some ⟨w2.heap.size,0,none⟩) 1 1) rfl rfl rfl _ (HZ.out _) rfl ?_)
 refine bodyPost_ret (aI rfl _ _ w.heap.size _ rfl (setRow_self (HZ.out _) _) rfl) rfl ⟨⟨_,rfl,?_,(HR2.out.alloc _).setRow (by omega) _⟩,((K2.out.add hrb _).ch).setRow (Nat.le_refl _) (Nat.le_of_lt hrb) _⟩
 refine ⟨w2.heap.size,_,rfl,by omega,?_,((sN.out.kept (fun k _ hk=>aB _ _ k hk) a _).setRow (by omega) _).mono (by omega) _ _⟩
 show ((w2.heap.push _).modify w.heap.size _)[w2.heap.size]? =_
 rw [Array.getElem?_modify,if_neg (by omega),Array.getElem?_push,if_pos rfl]
 rfl
set_option maxHeartbeats 4000000 in
theorem CV {l:List Int} {rb:Nat} {bv:Value} {s:Nat→Addr} {n:Nat} (ih:Dn l rb bv s n) (t:Tk) (w:World) (hk2:t.kind≠2) (hk3:t.kind≠3) (hu:jo t.text=ak) (hp:t.text=jy) (c p:Nat) (h:rd l n .expr (tok l t.stop)=some (.bad c p)) (hy:pq l rb bv s t w):
  Calls Tryz.prog 172 #[.pointer (some ⟨rb,0,none⟩)] w fun e w'=>Out rb w.heap.size bv s (.bad c p) e w'∧Ch rb w w':=by
 have hrb:=lt_of_heap hy.rd
 have HB:=Lib.hid (gu hy t _ rfl hy.st)
 have HU:Hid (∀W,Calls Tryz.prog 189 #[.string t.text] W fun e w'=>e= .returned (.string (jo t.text))∧W=w'):=Lib.hid (fun W=>kH t.text W)
 have hst:=bD l t.stop hy.st
 have hu':jo t.text=⟨#[]⟩:=hu
 rw [hu'] at HU
 have ep:(t.text.toList==[40])=true:=by rw [kE];exact decide_eq_true hp
 have HE:Hid (∀W,Ch rb w W→Rd W rb bv (tok l t.stop)→Calls Tryz.prog 73 #[.pointer (some ⟨rb,0,none⟩)] W fun e w'=>Out rb W.heap.size bv s (.bad c p) e w'∧Ch rb W w'):=Lib.hid (fun W hW hr=>ih.expr _ _ W h (hy.ch hW hr hst))
 have HR0:=Lib.hid hy.rd
 obtain ⟨⟨c0,c1,c2,c3,c4,c5,c6⟩,_,hb⟩:=hy.rd.facts
 have e2:(t.kind==2)=false:=by simpa using hk2
 have e3:(t.kind==3)=false:=by simpa using hk3
 generalize tok l t.stop=t' at*
 clear hy hk2 hk3 ih h hu hp hu'
 go_enter Tryz.func172,Tryz.ntmps172
 go_wp2_with (go_at_call 189;refine (HU.out _).mono ?_;rintro e w' ⟨rfl,rfl⟩)
 refine (HB.out _ (iO rb w _ hrb) (HR0.out.alloc _)).mono ?_
 rintro e w1 ⟨rfl,hrd,hch⟩
 have K1:=Lib.hid ((Kp.start rb w hrb dw).next hrb hch)
 have HR1:=Lib.hid hrd
 clear hrd hch c0 c1 c2 c3 c4 c5 c6
 go_wp2_with fail
 refine (HE.out _ K1.out.ch HR1.out).mono ?_
 rintro e w2 ⟨⟨v,rfl,he⟩,hch⟩
 exact ⟨rfl,⟨_,rfl,he⟩,K1.out.ch.trans hch⟩
set_option maxHeartbeats 4000000 in
theorem Ew {l:List Int} {rb:Nat} {bv:Value} {s:Nat→Addr} {n:Nat} (ih:Dn l rb bv s n) (t:Tk) (w:World) (hk2:t.kind≠2) (hk3:t.kind≠3) (hu:jo t.text=ak) (hp:t.text=jy) (a:Tr) (t1:Tk) (h:rd l n .expr (tok l t.stop)=some (.ok a t1)) (hc: ¬t1.text=jw) (hy:pq l rb bv s t w):
  Calls Tryz.prog 172 #[.pointer (some ⟨rb,0,none⟩)] w fun e w'=>Out rb w.heap.size bv s (refuse t1) e w'∧Ch rb w w':=by
 have hrb:=lt_of_heap hy.rd
 have HB:=Lib.hid (gu hy t _ rfl hy.st)
 have HU:Hid (∀W,Calls Tryz.prog 189 #[.string t.text] W fun e w'=>e= .returned (.string (jo t.text))∧W=w'):=Lib.hid (fun W=>kH t.text W)
 have hst:=bD l t.stop hy.st
 have hu':jo t.text=⟨#[]⟩:=hu
 rw [hu'] at HU
 have ep:(t.text.toList==[40])=true:=by rw [kE];exact decide_eq_true hp
 have HE:Hid (∀W,Ch rb w W→Rd W rb bv (tok l t.stop)→Calls Tryz.prog 73 #[.pointer (some ⟨rb,0,none⟩)] W fun e w'=>Out rb W.heap.size bv s (.ok a t1) e w'∧Ch rb W w'):=Lib.hid (fun W hW hr=>ih.expr _ _ W h (hy.ch hW hr hst))
 have hs1:=iT l n _ _ t1 a h hst
 have HN:Hid (∀W,Ch rb w W→Rd W rb bv t1→Calls Tryz.prog 146 #[.pointer (some ⟨rb,0,none⟩),.string ⟨#[41]⟩] W fun e w'=>Bad s t1.code t1.start e w'∧Below W.heap.size W w'):=Lib.hid (fun W hW hr=>uq rb bv t1 _ s W hr (hy.ch hW hr hs1).cx.er hc)
 have HR0:=Lib.hid hy.rd
 obtain ⟨⟨c0,c1,c2,c3,c4,c5,c6⟩,_,hb⟩:=hy.rd.facts
 have e2:(t.kind==2)=false:=by simpa using hk2
 have e3:(t.kind==3)=false:=by simpa using hk3
 generalize tok l t.stop=t' at*
 clear hy hk2 hk3 ih h hu hp hu' hc
 go_enter Tryz.func172,Tryz.ntmps172
 go_wp2_with (go_at_call 189;refine (HU.out _).mono ?_;rintro e w' ⟨rfl,rfl⟩)
 refine (HB.out _ (iO rb w _ hrb) (HR0.out.alloc _)).mono ?_
 rintro e w1 ⟨rfl,hrd,hch⟩
 have K1:=Lib.hid ((Kp.start rb w hrb dw).next hrb hch)
 have HR1:=Lib.hid hrd
 clear hrd hch c0 c1 c2 c3 c4 c5 c6
 go_wp2_with fail
 refine (HE.out _ K1.out.ch HR1.out).mono ?_
 rintro e w2 ⟨⟨ka,rfl,hin,hrd⟩,hch⟩
 obtain ⟨oa,na,rfl⟩:=hin.shape
 have K2:=Lib.hid (K1.out.next hrb hch)
 have sN:=Lib.hid (hin.mono (by have:=lt_of_heap (K1.out.at (List.mem_cons_self ..));omega:w.heap.size+1≤w1.heap.size) _ _)
 have HR2:=Lib.hid hrd
 clear hin hrd hch
 go_wp2_with fail
 have K2a:=Lib.hid (K2.out.add hrb (rG a (.slice oa na na)))
 refine (HN.out _ K2a.out.ch (HR2.out.alloc _)).mono ?_
 rintro e w3 ⟨⟨v,rfl,he⟩,hb3⟩
 exact ⟨rfl,⟨_,rfl,he⟩,K2a.out.ch.step hb3 (by have:=K2a.out.ch.1.size;omega)⟩
set_option maxHeartbeats 4000000 in
theorem CU {l:List Int} {rb:Nat} {bv:Value} {s:Nat→Addr} {n:Nat} (ih:Dn l rb bv s n) (t:Tk) (w:World) (hk2:t.kind≠2) (hk3:t.kind≠3) (hu:jo t.text=ak) (hp:t.text=jy) (a:Tr) (t1:Tk) (h:rd l n .expr (tok l t.stop)=some (.ok a t1)) (hc:t1.text=jw) (hy:pq l rb bv s t w):
  Calls Tryz.prog 172 #[.pointer (some ⟨rb,0,none⟩)] w fun e w'=>Out rb w.heap.size bv s (.ok a (tok l t1.stop)) e w'∧Ch rb w w':=by
 have hrb:=lt_of_heap hy.rd
 have HB:=Lib.hid (gu hy t _ rfl hy.st)
 have HU:Hid (∀W,Calls Tryz.prog 189 #[.string t.text] W fun e w'=>e= .returned (.string (jo t.text))∧W=w'):=Lib.hid (fun W=>kH t.text W)
 have hst:=bD l t.stop hy.st
 have hu':jo t.text=⟨#[]⟩:=hu
 rw [hu'] at HU
 have ep:(t.text.toList==[40])=true:=by rw [kE];exact decide_eq_true hp
 have HE:Hid (∀W,Ch rb w W→Rd W rb bv (tok l t.stop)→Calls Tryz.prog 73 #[.pointer (some ⟨rb,0,none⟩)] W fun e w'=>Out rb W.heap.size bv s (.ok a t1) e w'∧Ch rb W w'):=Lib.hid (fun W hW hr=>ih.expr _ _ W h (hy.ch hW hr hst))
 have hs1:=iT l n _ _ t1 a h hst
 have HN:Hid (∀W,Ch rb w W→Rd W rb bv t1→Calls Tryz.prog 146 #[.pointer (some ⟨rb,0,none⟩),.string ⟨#[41]⟩] W fun e w'=>e= .returned (.tuple #[])∧Rd w' rb bv (tok l t1.stop)∧Ch rb W w'):=Lib.hid (fun W hW hr=>nJ rb bv l t1 _ W hr (hy.ch hW hr hs1).cx.sl hs1 hc)
 generalize tok l t1.stop=t2 at*
 have HR0:=Lib.hid hy.rd
 obtain ⟨⟨c0,c1,c2,c3,c4,c5,c6⟩,_,hb⟩:=hy.rd.facts
 have e2:(t.kind==2)=false:=by simpa using hk2
 have e3:(t.kind==3)=false:=by simpa using hk3
 generalize tok l t.stop=t' at*
 clear hy hk2 hk3 ih h hu hp hu' hc
 go_enter Tryz.func172,Tryz.ntmps172
 go_wp2_with (go_at_call 189;refine (HU.out _).mono ?_;rintro e w' ⟨rfl,rfl⟩)
 refine (HB.out _ (iO rb w _ hrb) (HR0.out.alloc _)).mono ?_
 rintro e w1 ⟨rfl,hrd,hch⟩
 have K1:=Lib.hid ((Kp.start rb w hrb dw).next hrb hch)
 have HR1:=Lib.hid hrd
 clear hrd hch c0 c1 c2 c3 c4 c5 c6
 go_wp2_with fail
 refine (HE.out _ K1.out.ch HR1.out).mono ?_
 rintro e w2 ⟨⟨ka,rfl,hin,hrd⟩,hch⟩
 obtain ⟨oa,na,rfl⟩:=hin.shape
 have K2:=Lib.hid (K1.out.next hrb hch)
 have sN:=Lib.hid (hin.mono (by have:=lt_of_heap (K1.out.at (List.mem_cons_self ..));omega:w.heap.size+1≤w1.heap.size) _ _)
 have HR2:=Lib.hid hrd
 clear hin hrd hch
 go_wp2_with fail
 have K2a:=Lib.hid (K2.out.add hrb (rG a (.slice oa na na)))
 refine (HN.out _ K2a.out.ch (HR2.out.alloc _)).mono ?_
 rintro e w3 ⟨rfl,hrd,hch⟩
 have K3:=Lib.hid (K2a.out.next hrb hch)
 have qC:Hid (a.In w3 (w.heap.size+1) (.slice oa na na)):=Lib.hid ((sN.out.kept (fun k _ hk=>aB _ _ k hk) a _).ch (by omega) hch)
 have HR3:=Lib.hid hrd
 clear hch hrd K2 K2a
 obtain ⟨⟨x0,x1,x2,x3,x4,x5⟩,_⟩:=aA (K3.out.at (List.mem_cons_self ..))
 have HZ:Hid (w3.heap[w.heap.size]? =some dw):=Lib.hid (K3.out.at (List.mem_cons_of_mem _ (List.mem_cons_self ..)))
 unfold dw at HZ
 generalize w2.heap.size=A2 at*
 go_wp2_with (refine aC rfl _ _ rfl rfl w.heap.size a.op a.val a.nm a.pos a.aG _ qC.out.one rfl rfl _ HZ.out rfl ?_)
 exact bodyPost_ret (aI rfl _ _ w.heap.size _ rfl (setRow_self HZ.out _) rfl) rfl ⟨⟨_,rfl,(qC.out.setRow (by omega) _).mono (by omega) _ _,HR3.out.setRow (by omega) _⟩,K3.out.ch.setRow (Nat.le_refl _) (Nat.le_of_lt hrb) _⟩
set_option maxHeartbeats 4000000 in
theorem UC {l:List Int} {rb:Nat} {bv:Value} {s:Nat→Addr} (t:Tk) (w:World) (hk2:t.kind≠2) (hk3:t.kind≠3) (hu:jo t.text=ak) (hp: ¬t.text=jy) (hy:pq l rb bv s t w):
  Calls Tryz.prog 172 #[.pointer (some ⟨rb,0,none⟩)] w fun e w'=>Out rb w.heap.size bv s (refuse t) e w'∧Ch rb w w':=by
 have hrb:=lt_of_heap hy.rd
 have HB:=Lib.hid (gu hy t _ rfl hy.st)
 have HU:Hid (∀W,Calls Tryz.prog 189 #[.string t.text] W fun e w'=>e= .returned (.string (jo t.text))∧W=w'):=Lib.hid (fun W=>kH t.text W)
 have hst:=bD l t.stop hy.st
 have hu':jo t.text=⟨#[]⟩:=hu
 rw [hu'] at HU
 have ep:(t.text.toList==[40])=false:=aX hp
 have HN:Hid (∀W,Below w.heap.size w W→Calls Tryz.prog 74 #[.pointer (some ⟨rb,0,none⟩)] W fun e w'=>Bad s t.code t.start e w'∧Below W.heap.size W w'):=Lib.hid (fun W hW=>nC rb bv t s W (hy.below hW).rd (hy.below hW).cx.er)
 have HR0:=Lib.hid hy.rd
 obtain ⟨⟨c0,c1,c2,c3,c4,c5,c6⟩,_,hb⟩:=hy.rd.facts
 have e2:(t.kind==2)=false:=by simpa using hk2
 have e3:(t.kind==3)=false:=by simpa using hk3
 generalize tok l t.stop=t' at*
 clear hy hk2 hk3 hu hp hu'
 go_enter Tryz.func172,Tryz.ntmps172
 go_wp2_with (go_at_call 189;refine (HU.out _).mono ?_;rintro e w' ⟨rfl,rfl⟩)
 refine (HN.out _ ((Below.refl _ _).alloc (Nat.le_refl _) _)).mono ?_
 rintro e w1 ⟨⟨v,rfl,he⟩,hb1⟩
 exact ⟨rfl,⟨_,rfl,he⟩,(iO rb w _ hrb).step hb1 (by simp;omega)⟩
def Tr.kL (w:World) (P:Nat→Prop):Tr→Value→Prop
 | .num _ _,kv=>kv= .slice none 0 0
 | .name _ _,kv=>kv= .slice none 0 0
 | .un _ _ a,kv=> ∃k ka,kv= .slice (some ⟨k,0,none⟩) 1 1∧P k∧w.heap[k]? =some (.cells (a.cells ka).toArray 30)∧a.kL w P ka
 | .bin _ _ a b,kv=> ∃k ka kb,kv= .slice (some ⟨k,0,none⟩) 2 2∧P k∧w.heap[k]? =some (.cells (a.cells ka++b.cells kb).toArray 30)∧a.kL w P ka∧b.kL w P kb
 | .cond _ _ a b c,kv=> ∃k ka kb kc,kv= .slice (some ⟨k,0,none⟩) 3 3∧P k∧w.heap[k]? =some (.cells (a.cells ka++b.cells kb++c.cells kc).toArray 30)∧a.kL w P ka∧b.kL w P kb∧c.kL w P kc
 | .eF _ _ _ _ a,kv=> ∃k ka,kv= .slice (some ⟨k,0,none⟩) 1 1∧P k∧w.heap[k]? =some (.cells (a.cells ka).toArray 30)∧a.kL w P ka
theorem Tr.In.toP {w:World} {lo:Nat} {P:Nat→Prop} (h: ∀k,lo≤k→k<w.heap.size→P k): ∀(t:Tr) (kv:Value),t.In w lo kv→t.kL w P kv
 | .num _ _,_,hi=>hi
 | .name _ _,_,hi=>hi
 | .un _ _ a,_,⟨k,ka,e,hl,hk,ha⟩=>⟨k,ka,e,h k hl (lt_of_heap hk),hk,Tr.In.toP h a ka ha⟩
 | .bin _ _ a b,_,⟨k,ka,kb,e,hl,hk,ha,hb⟩=>⟨k,ka,kb,e,h k hl (lt_of_heap hk),hk,Tr.In.toP h a ka ha,Tr.In.toP h b kb hb⟩
 | .cond _ _ a b c,_,⟨k,ka,kb,kc,e,hl,hk,ha,hb,hc⟩=>⟨k,ka,kb,kc,e,h k hl (lt_of_heap hk),hk,Tr.In.toP h a ka ha,Tr.In.toP h b kb hb,Tr.In.toP h c kc hc⟩
 | .eF _ _ _ _ a,_,⟨k,ka,e,hl,hk,ha⟩=>⟨k,ka,e,h k hl (lt_of_heap hk),hk,Tr.In.toP h a ka ha⟩
theorem Tr.kL.to {w:World} {lo:Nat} {P:Nat→Prop} (h: ∀k,P k→lo≤k): ∀(t:Tr) (kv:Value),t.kL w P kv→t.In w lo kv
 | .num _ _,_,hi=>hi
 | .name _ _,_,hi=>hi
 | .un _ _ a,_,⟨k,ka,e,hl,hk,ha⟩=>⟨k,ka,e,h k hl,hk,Tr.kL.to h a ka ha⟩
 | .bin _ _ a b,_,⟨k,ka,kb,e,hl,hk,ha,hb⟩=>⟨k,ka,kb,e,h k hl,hk,Tr.kL.to h a ka ha,Tr.kL.to h b kb hb⟩
 | .cond _ _ a b c,_,⟨k,ka,kb,kc,e,hl,hk,ha,hb,hc⟩=>⟨k,ka,kb,kc,e,h k hl,hk,Tr.kL.to h a ka ha,Tr.kL.to h b kb hb,Tr.kL.to h c kc hc⟩
 | .eF _ _ _ _ a,_,⟨k,ka,e,hl,hk,ha⟩=>⟨k,ka,e,h k hl,hk,Tr.kL.to h a ka ha⟩
theorem Tr.kL.kept {w w':World} {P:Nat→Prop} (h: ∀k,P k→k<w.heap.size→w'.heap[k]? =w.heap[k]?): ∀(t:Tr) (kv:Value),t.kL w P kv→t.kL w' P kv
 | .num _ _,_,hi=>hi
 | .name _ _,_,hi=>hi
 | .un _ _ a,_,⟨k,ka,e,hl,hk,ha⟩=>⟨k,ka,e,hl,(h k hl (lt_of_heap hk)).trans hk,Tr.kL.kept h a ka ha⟩
 | .bin _ _ a b,_,⟨k,ka,kb,e,hl,hk,ha,hb⟩=>⟨k,ka,kb,e,hl,(h k hl (lt_of_heap hk)).trans hk,Tr.kL.kept h a ka ha,Tr.kL.kept h b kb hb⟩
 | .cond _ _ a b c,_,⟨k,ka,kb,kc,e,hl,hk,ha,hb,hc⟩=>⟨k,ka,kb,kc,e,hl,(h k hl (lt_of_heap hk)).trans hk,Tr.kL.kept h a ka ha,Tr.kL.kept h b kb hb,Tr.kL.kept h c kc hc⟩
 | .eF _ _ _ _ a,_,⟨k,ka,e,hl,hk,ha⟩=>⟨k,ka,e,hl,(h k hl (lt_of_heap hk)).trans hk,Tr.kL.kept h a ka ha⟩
theorem wM (s:ByteArray): ∀(L:List (List ByteArray)) (k:Nat),rowFrom s L k≤k+L.length
 | [],_=>by simp [rowFrom]
 | r::L,k=>by
  unfold rowFrom
  have:=wM s L (k+1)
  split
  ·simp
  ·simp at this⊢;omega
theorem I4 (s:ByteArray):dO s≤10:=by have:=wM s bG 0;simpa [bG,dO] using this
def Zk (l:List Int) (rb:Nat) (bv:Value) (least n:Nat) (w:World) (A:Nat) (res:Rs) (k:Nat) (wr:World):Prop:=
 k≤n∧ ∃left t o m,rd l k (.loop least left) t=some res∧Kp rb w wr [(A,rG left (.slice o m m)),(w.heap.size,dw)]∧w.heap.size<A∧left.kL wr (fun b=>w.heap.size+1≤b∧b≠A) (.slice o m m)∧Rd wr rb bv t∧t.stop≤l.length
theorem Kp.setA {rb:Nat} {w W:World} {A:Nat} {x:Obj} {cs c':Array Value} {ty:TypeId} (h:Kp rb w W [(A,.cells cs ty),(w.heap.size,x)]) (hA:w.heap.size<A) (hrb:rb<w.heap.size):Kp rb w (W.setRow A c') [(A,.cells c' ty),(w.heap.size,x)] where
 ch:=h.ch.setRow (Nat.le_of_lt hA) (by omega) c'
 all:=fun y hy=>by
  rcases List.mem_cons.1 hy with rfl | hy
  ·exact ⟨setRow_self (h.at (List.mem_cons_self ..)) c',Nat.le_of_lt hA⟩
  ·obtain rfl:=List.mem_singleton.1 hy
   refine ⟨?_,Nat.le_refl _⟩
   show (W.heap.modify A _)[w.heap.size]? =_
   rw [Array.getElem?_modify,if_neg (by omega)]
   exact h.at (List.mem_cons_of_mem _ (List.mem_cons_self ..))
set_option maxHeartbeats 8000000 in
theorem Qa {l:List Int} {rb:Nat} {bv:Value} {s:Nat→Addr} {n:Nat} (ih: ∀m,m≤n→Dn l rb bv s m) (least:Nat) (t:Tk) (res:Rs) (w:World) (h:rd l (n+1) (.bin least) t=some res) (_hle:least≤11) (_h1:1≤least) (hy:pq l rb bv s t w):
  Calls Tryz.prog 145 #[.pointer (some ⟨rb,0,none⟩),.int .i64 least] w fun e w'=>Out rb w.heap.size bv s res e w'∧Ch rb w w':=by
 have hrb:=lt_of_heap hy.rd
 simp only [rd] at h
 have HY:=Lib.hid hy
 obtain ⟨r1,hr1⟩: ∃r1,rd l n .iR t=r1:=⟨_,rfl⟩
 rw [hr1] at h
 match r1,hr1,h with
 | none,_,h=>cases h
 | some (.bad c p),hr1,h=>
  cases h
  have HO:Hid (∀o,Calls Tryz.prog 172 #[.pointer (some ⟨rb,0,none⟩)] (w.alloc o) fun e w'=>Out rb (w.alloc o).heap.size bv s (.bad c p) e w'∧Ch rb (w.alloc o) w'):=Lib.hid (fun o=>(ih n (Nat.le_refl _)).iR t _ _ hr1 (hy.below ((Below.refl _ _).alloc (Nat.le_refl _) o)))
  clear ih hr1 hy
  go_enter Tryz.func145,Tryz.ntmps145
  go_wp2_with fail
  refine (HO.out _).mono ?_
  rintro e w1 ⟨⟨v,rfl,he⟩,hch⟩
  exact ⟨rfl,⟨_,rfl,he⟩,(iO rb w _ hrb).trans hch⟩
 | some (.ok a t1),hr1,h=>
  have HO:Hid (∀o,Calls Tryz.prog 172 #[.pointer (some ⟨rb,0,none⟩)] (w.alloc o) fun e w'=>Out rb (w.alloc o).heap.size bv s (.ok a t1) e w'∧Ch rb (w.alloc o) w'):=Lib.hid (fun o=>(ih n (Nat.le_refl _)).iR t _ _ hr1 (hy.below ((Below.refl _ _).alloc (Nat.le_refl _) o)))
  have hs1:=iT l n _ t t1 a hr1 hy.st
  have IH:=Lib.hid ih
  have HL:=Lib.hid h
  clear ih hr1 hy h
  go_enter Tryz.func145,Tryz.ntmps145
  go_wp2_with fail
  refine (HO.out _).mono ?_
  rintro e w1 ⟨⟨ka,rfl,hin,hrd⟩,hch⟩
  obtain ⟨oa,na,rfl⟩:=hin.shape
  have K1:=Lib.hid ((Kp.start rb w hrb dw).next hrb hch)
  have sN:=Lib.hid hin
  have HR1:=Lib.hid hrd
  have hl1:=lt_of_heap (K1.out.at (List.mem_cons_self ..))
  clear hch hin hrd
  go_wp2_with fail
  have HS:Hid (∀o,o=rG a (.slice oa na na)→Zk l rb bv least n w w1.heap.size res n (w1.alloc o)):=Lib.hid (fun o ho=>by
   subst ho
   refine ⟨Nat.le_refl _,a,t1,oa,na,HL.out,K1.out.add hrb _,hl1,?_,HR1.out.alloc _,hs1⟩
   exact (Tr.In.toP (fun k hk hk'=>⟨by simp at hk;omega,by omega⟩) a _ sN.out).kept (fun k hk hk'=>aB _ _ k hk') a _)
  generalize w1.heap.size=A at*
  go_loopg [6,7] n (fun k _ _ wr=>Zk l rb bv least n w A res k wr)
  case atStart=>exact HS.out _ rfl
  case round=>
   obtain ⟨hk,left,t',o,m,hl,hkp,hA,hin,hrd,hst⟩:=hrel
   obtain ⟨x,hx⟩: ∃x,x=dO t'.text:=⟨_,rfl⟩
   have hx10:x≤10:=by rw [hx];exact I4 _
   have YL:Hid (∀W,Calls Tryz.prog 173 #[.string t'.text] W fun e w'=>e= .returned (.int .i64 x)∧Below W.heap.size W w'):=Lib.hid (fun W=>by rw [hx];exact zV t'.text W)
   have JG:=Lib.hid hkp
   have nY:=Lib.hid hin
   have Ap:=Lib.hid hrd
   have HYr:Hid (∀W t'',Ch rb w W→Rd W rb bv t''→t''.stop≤l.length→pq l rb bv s t'' W):=Lib.hid (fun W t'' hW hr ht=>HY.out.ch hW hr ht)
   have hsz:=hkp.ch.1.size
   have hAl:=lt_of_heap (hkp.at (List.mem_cons_self ..))
   obtain ⟨⟨c0,c1,c2,c3,c4,c5,c6⟩,_,hb⟩:=hrd.facts
   clear hkp hin hrd
   by_cases hge:least≤x
   ·
    cases gk with
    | zero=>simp [rd] at hl
    | succ k=>
     simp only [rd] at hl
     rw [←hx,if_pos hge] at hl
     have HT:=Lib.hid (gu HY.out t' _ rfl hst)
     have hst2:=bD l t'.stop hst
     obtain ⟨u,hu⟩: ∃u,tok l t'.stop=u:=⟨_,rfl⟩
     rw [hu] at hl HT hst2
     obtain ⟨r2,hr2⟩: ∃r2,rd l k (.bin (x+1)) u=r2:=⟨_,rfl⟩
     rw [hr2] at hl
     have hgi:(least:Int)≤(x:Int):=by omega
     clear hx hu
     match r2,hr2,hl with
     | none,_,hl=>cases hl
     | some (.bad c p),hr2,hl=>
      cases hl
      have Nv:Hid (∀W,Ch rb w W→Rd W rb bv u→Calls Tryz.prog 145 #[.pointer (some ⟨rb,0,none⟩),.int .i64 (x+1)] W fun e w'=>Out rb W.heap.size bv s (.bad c p) e w'∧Ch rb W w'):=Lib.hid (fun W hW hr=>(IH.out k (by omega)).bin (x+1) u _ W hr2 (by omega) (by omega) (HYr.out W u hW hr hst2))
      clear hr2 HL
      go_wp2_with (go_at_call 173;refine (YL.out _).mono ?_;rintro e w2 ⟨rfl,hb2⟩)
      have HC2:Hid (Ch rb wr w2):=Lib.hid (Ch.of_below hb2 (by omega))
      have HR2:Hid (Rd w2 rb bv t'):=Lib.hid ((hb2.block rb hb).trans Ap.out)
      clear hb2 c0 c1 c2 c3 c4 c5 c6
      refine (HT.out _ (JG.out.ch.trans HC2.out) HR2.out).mono ?_
      rintro e w3 ⟨rfl,JM,DJ⟩
      have K3:=Lib.hid (JG.out.next hrb (HC2.out.trans DJ))
      have DV:Hid (left.kL w3 (fun b=>w.heap.size+1≤b∧b≠A) (.slice o m m)):=Lib.hid (nY.out.kept (fun k hk hs=>(HC2.out.trans DJ).2 k hs (by omega)) left _)
      have HR3:=Lib.hid JM
      have h3:=lt_of_heap (K3.out.at (List.mem_cons_self ..))
      clear JM DJ HC2 HR2
      go_wp2_with fail
      refine (YL.out _).mono ?_
      rintro e w4 ⟨rfl,hb4⟩
      have Aq:Hid (Ch rb (w3.alloc (Nl t')) w4):=Lib.hid (Ch.of_below hb4 (by simp;omega))
      have K4:Hid (Kp rb w w4 [(w3.heap.size,Nl t'),(A,rG left (.slice o m m)),(w.heap.size,dw)]):=Lib.hid ((K3.out.add hrb (Nl t')).next hrb Aq.out)
      have HR4:Hid (Rd w4 rb bv u):=Lib.hid ((hb4.block rb (by simp;omega)).trans (HR3.out.alloc _))
      have Ub:Hid (left.kL w4 (fun b=>w.heap.size+1≤b∧b≠A) (.slice o m m)):=Lib.hid ((DV.out.kept (fun k _ hs=>aB _ _ k hs) left _).kept (fun k hk hs=>Aq.out.2 k hs (by omega)) left _)
      clear hb4 Aq HR3 K3 DV
      go_wp2_with fail
      refine (Nv.out _ K4.out.ch HR4.out).mono ?_
      rintro e w5 ⟨⟨v,rfl,he⟩,hch⟩
      exact ⟨rfl,⟨_,rfl,he⟩,K4.out.ch.trans hch⟩
     | some (.ok b t2),hr2,hl=>
      have HL2:Hid (rd l k (.loop least (.bin t'.text t'.start left b)) t2=some res):=Lib.hid hl
      have hst3:=iT l k _ u t2 b hr2 hst2
      have Nv:Hid (∀W,Ch rb w W→Rd W rb bv u→Calls Tryz.prog 145 #[.pointer (some ⟨rb,0,none⟩),.int .i64 (x+1)] W fun e w'=>Out rb W.heap.size bv s (.ok b t2) e w'∧Ch rb W w'):=Lib.hid (fun W hW hr=>(IH.out k (by omega)).bin (x+1) u _ W hr2 (by omega) (by omega) (HYr.out W u hW hr hst2))
      clear hr2 hl HL
      go_wp2_with (go_at_call 173;refine (YL.out _).mono ?_;rintro e w2 ⟨rfl,hb2⟩)
      have HC2:Hid (Ch rb wr w2):=Lib.hid (Ch.of_below hb2 (by omega))
      have HR2:Hid (Rd w2 rb bv t'):=Lib.hid ((hb2.block rb hb).trans Ap.out)
      clear hb2 c0 c1 c2 c3 c4 c5 c6
      refine (HT.out _ (JG.out.ch.trans HC2.out) HR2.out).mono ?_
      rintro e w3 ⟨rfl,JM,DJ⟩
      have K3:=Lib.hid (JG.out.next hrb (HC2.out.trans DJ))
      have DV:Hid (left.kL w3 (fun b=>w.heap.size+1≤b∧b≠A) (.slice o m m)):=Lib.hid (nY.out.kept (fun k hk hs=>(HC2.out.trans DJ).2 k hs (by omega)) left _)
      have HR3:=Lib.hid JM
      have h3:=lt_of_heap (K3.out.at (List.mem_cons_self ..))
      clear JM DJ HC2 HR2
      go_wp2_with fail
      refine (YL.out _).mono ?_
      rintro e w4 ⟨rfl,hb4⟩
      have Aq:Hid (Ch rb (w3.alloc (Nl t')) w4):=Lib.hid (Ch.of_below hb4 (by simp;omega))
      have K4:Hid (Kp rb w w4 [(w3.heap.size,Nl t'),(A,rG left (.slice o m m)),(w.heap.size,dw)]):=Lib.hid ((K3.out.add hrb (Nl t')).next hrb Aq.out)
      have HR4:Hid (Rd w4 rb bv u):=Lib.hid ((hb4.block rb (by simp;omega)).trans (HR3.out.alloc _))
      have Ub:Hid (left.kL w4 (fun b=>w.heap.size+1≤b∧b≠A) (.slice o m m)):=Lib.hid ((DV.out.kept (fun k _ hs=>aB _ _ k hs) left _).kept (fun k hk hs=>Aq.out.2 k hs (by omega)) left _)
      clear hb4 Aq HR3 K3 DV
      go_wp2_with fail
      refine (Nv.out _ K4.out.ch HR4.out).mono ?_
      rintro e w5 ⟨⟨kb,rfl,Tm,YZ⟩,Tz⟩
      obtain ⟨ob,nb,rfl⟩:=Tm.shape
      have K5:=Lib.hid (K4.out.next hrb Tz)
      have h4:=lt_of_heap (K4.out.at (List.mem_cons_of_mem _ (List.mem_cons_self ..)))
      have HIN5:Hid (left.kL w5 (fun b=>w.heap.size+1≤b∧b≠A) (.slice o m m)):=Lib.hid (Ub.out.kept (fun k hk hs=>Tz.2 k hs (by omega)) left _)
      have HIB5:Hid (b.kL w5 (fun b=>w.heap.size+1≤b∧b≠A) (.slice ob nb nb)):=Lib.hid (Tr.In.toP (fun k hk _=>⟨by omega,by omega⟩) b _ Tm)
      have Jr:=Lib.hid YZ
      clear Tm YZ Tz Ub HR4 K4
      obtain ⟨⟨k0,k1,k2,k3,k4,k5⟩,_⟩:=aA (K5.out.at (List.mem_cons_self ..))
      obtain ⟨⟨x0,x1,x2,x3,x4,x5⟩,_⟩:=aA (K5.out.at (List.mem_cons_of_mem _ (List.mem_cons_self ..)))
      have q1:=lt_of_heap (K5.out.at (List.mem_cons_self ..))
      have q2:=lt_of_heap (K5.out.at (List.mem_cons_of_mem _ (List.mem_cons_self ..)))
      have q3:=lt_of_heap (K5.out.at (List.mem_cons_of_mem _ (List.mem_cons_of_mem _ (List.mem_cons_self ..))))
      have YR:Hid (∀o1 o2,Kp rb w ((w5.alloc o1).alloc o2) [(A,rG left (.slice o m m)),(w.heap.size,dw)]):=Lib.hid (fun o1 o2=>⟨((K5.out.add hrb o1).add hrb o2).ch,fun y hy=>((K5.out.add hrb o1).add hrb o2).all y (by simp at hy⊢;rcases hy with rfl | rfl<;>simp)⟩)
      generalize w3.heap.size=A6 at*
      go_wp2_with (refine aC rfl _ _ rfl rfl A t'.text 0 ⟨#[]⟩ t'.start 0 (.slice (some ⟨w5.heap.size+1,0,none⟩) 2 2) rfl rfl rfl _ ((YR.out _ _).at (List.mem_cons_self ..)) rfl ?_)
      go_roundg k
      case measure=>omega
      case rel=>
       refine ⟨by omega,.bin t'.text t'.start left b,t2,_,_,HL2.out,(YR.out _ _).setA hA hrb,hA,?_,((Jr.out.alloc _).alloc _).setRow (by omega) _,hst3⟩
       have hN: ∀{tr:Tr} {kv:Value} (_:tr.kL w5 (fun b=>w.heap.size+1≤b∧b≠A) kv) (o o':Obj) (c:Array Value),tr.kL (((w5.alloc o).alloc o').setRow A c) (fun b=>w.heap.size+1≤b∧b≠A) kv:=fun {tr kv} hi o o' c=>
        hi.kept (fun k hk hs=>by
         show (((w5.heap.push _).push _).modify A _)[k]? =_
         rw [Array.getElem?_modify,if_neg (by omega)]
         exact (aB _ _ k (by simp;omega)).trans (aB _ _ k hs)) tr kv
       refine ⟨w5.heap.size+1,_,_,rfl,⟨by omega,by omega⟩,?_,hN HIN5.out _ _ _,hN HIB5.out _ _ _⟩
       show (((w5.heap.push _).push _).modify A _)[w5.heap.size+1]? =_
       rw [Array.getElem?_modify,if_neg (by omega),Array.getElem?_push,if_pos (by simp)]
       rfl
   ·
    have hres:res= .ok left t':=by
     cases gk with
     | zero=>simp [rd] at hl
     | succ k=>
      simp only [rd] at hl
      rw [←hx,if_neg hge] at hl
      simpa using hl.symm
    subst hres
    have hgi: ¬(least:Int)≤(x:Int):=by omega
    have hgi2:(x:Int)<(least:Int):=by omega
    clear hx hl HL hge
    have hrbA:rb≤wr.heap.size:=by omega
    go_wp2_with (go_at_call 173;refine (YL.out _).mono ?_;rintro e w2 ⟨rfl,hb2⟩;have K2:=Lib.hid (JG.out.next hrb (Ch.of_below hb2 hrbA));have HR2:Hid (Rd w2 rb bv t'):=Lib.hid ((hb2.block rb hb).trans Ap.out);have Qv:Hid (left.kL w2 (fun b=>w.heap.size+1≤b∧b≠A) (.slice o m m)):=Lib.hid (nY.out.kept (fun k _ hs=>hb2.block k hs) left _);clear hb2;obtain ⟨⟨x0,x1,x2,x3,x4,x5⟩,_⟩:=aA (K2.out.at (List.mem_cons_self ..));have HZ:Hid (w2.heap[w.heap.size]? =some dw):=Lib.hid (K2.out.at (List.mem_cons_of_mem _ (List.mem_cons_self ..)));obtain ⟨⟨z0,z1,z2,z3,z4,z5⟩,y0,y1,y2,y3,y4,y5⟩:=aA HZ.out)
    exact bodyPost_ret (aI rfl _ _ w.heap.size _ rfl (pF HZ.out _ _ _ _ _ _) rfl) rfl ⟨⟨_,rfl,Tr.kL.to (fun k h=>by omega) left _ (Qv.out.kept (fun k hk _=>bg _ _ _ _ _ _ _ _ k (by omega)) left _),(bg _ _ _ _ _ _ _ _ rb (by omega)).trans HR2.out⟩,qV K2.out.ch (Nat.le_refl _) (Nat.le_of_lt hrb) _ _ _ _ _ _⟩
theorem J7 (l:List Int) (rb:Nat) (bv:Value) (s:Nat→Addr): ∀n,∀m,m≤n→Dn l rb bv s m:=by
 intro n
 induction n with
 | zero=>
  intro m hm
  obtain rfl:m=0:=by omega
  exact ⟨fun _ _ _ h=>by simp [rd] at h,fun _ _ _ h=>by simp [rd] at h,fun _ _ _ _ h=>by simp [rd] at h,fun _ _ _ h=>by simp [rd] at h⟩
 | succ n ih=>
  intro m hm
  by_cases hmn:m≤n
  ·exact ih m hmn
  obtain rfl:m=n+1:=by omega
  have ihn:=ih n (Nat.le_refl _)
  refine ⟨fun t res w h hy=>?_,fun t res w h hy=>?_,fun least t res w h h1 h2 hy=>Qa ih least t res w h h1 h2 hy,fun t res w h hy=>?_⟩
  ·simp only [rd] at h
   split at h
   ·rename_i hc
    obtain ⟨hk,ha⟩:=hc
    cases hr:rd l n .expr (tok l (tok l t.stop).stop) with
    | none=>rw [hr] at h;cases h
    | some r=>
     rw [hr] at h
     have:=LY ihn t r w hr hk ha hy
     cases r with
     | ok e t'=>cases h;exact this
     | bad c p=>cases h;exact this
   ·rename_i hc
    by_cases hk:t.kind=3
    ·have ha:fZ (tok l t.stop).text=false:=by
      cases h':fZ (tok l t.stop).text with
      | false=>rfl
      | true=>exact absurd ⟨hk,h'⟩ hc
     exact Ij ihn t res w h hk ha hy
    ·exact CY ihn t res w h hk hy
  ·simp only [rd] at h
   split at h
   ·rename_i a t1 ha
    split at h
    ·rename_i hq
     split at h
     ·rename_i y t2 hy2
      split at h
      ·rename_i hc
       split at h
       ·rename_i z t3 hz
        cases h
        exact Iu ihn t t1 a w ha hq y t2 hy2 hc z t3 hz hy
       ·rename_i hne
        cases hr:rd l n .cond (tok l t2.stop) with
        | none=>rw [hr] at h;cases h
        | some r=>
         rw [hr] at h
         cases r with
         | ok e t'=>exact absurd hr (hne _ _)
         | bad c p=>cases h;exact Iw ihn t t1 a w ha hq y t2 hy2 hc c p hr hy
      ·rename_i hc
       cases h
       exact Iy ihn t t1 a w ha hq y t2 hy2 hc hy
     ·rename_i hne
      cases hr:rd l n .expr (tok l t1.stop) with
      | none=>rw [hr] at h;cases h
      | some r=>
       rw [hr] at h
       cases r with
       | ok e t'=>exact absurd hr (hne _ _)
       | bad c p=>cases h;exact Iz ihn t t1 a w ha hq c p hr hy
    ·rename_i hq
     cases h
     exact ES ihn t t1 a w ha hq hy
   ·rename_i hne
    cases hr:rd l n (.bin 1) t with
    | none=>rw [hr] at h;cases h
    | some r=>
     rw [hr] at h
     cases r with
     | ok e t'=>exact absurd hr (hne _ _)
     | bad c p=>cases h;exact IB ihn t c p w hr hy
  ·simp only [rd] at h
   split at h
   ·rename_i hk
    split at h
    ·rename_i ho
     cases h
     have:=Lp (s:=s) t w hk ho hy
     have e:refuse t= .bad 6 t.start:=by unfold refuse Tk.code;rw [if_pos ho]
     rw [e]
     exact this
    ·rename_i ho
     have ho':t.over=false:=by simpa using ho
     split at h
     ·rename_i hg
      cases h
      exact Ls t w hk ho' hg hy
     ·rename_i hg
      cases h
      exact Pn t w hk ho' (by simpa using hg) hy
   ·rename_i hk2
    split at h
    ·rename_i hk
     cases h
     exact Lr t w hk hy
    ·rename_i hk3
     split at h
     ·rename_i hu
      split at h
      ·rename_i a t1 ha
       cases h
       exact UA ihn t w hk2 hk3 hu a t1 ha hy
      ·rename_i hne
       cases hr:rd l n .iR (tok l t.stop) with
       | none=>rw [hr] at h;cases h
       | some r=>
        rw [hr] at h
        cases r with
        | ok e t'=>exact absurd hr (hne _ _)
        | bad c p=>cases h;exact Eu ihn t w hk2 hk3 hu c p hr hy
     ·rename_i hu
      have hu':jo t.text=ak:=by simpa using hu
      split at h
      ·rename_i hp
       split at h
       ·rename_i e t1 he
        split at h
        ·rename_i hc
         cases h
         exact CU ihn t w hk2 hk3 hu' hp e t1 he hc hy
        ·rename_i hc
         cases h
         exact Ew ihn t w hk2 hk3 hu' hp e t1 he hc hy
       ·rename_i hne
        cases hr:rd l n .expr (tok l t.stop) with
        | none=>rw [hr] at h;cases h
        | some r=>
         rw [hr] at h
         cases r with
         | ok e t'=>exact absurd hr (hne _ _)
         | bad c p=>cases h;exact CV ihn t w hk2 hk3 hu' hp c p hr hy
      ·rename_i hp
       cases h
       exact UC t w hk2 hk3 hu' hp hy
end Go.Proofs.YtacfglopionkfaaGreatDoor
