import Derived.Test.YtacfglopionkfaaGreatDoorArErr
import Derived.Test.YtacfglopionkfaaGreatDoorArStr
import Derived.Test.YtacfglopionkfaaGreatDoorArGoes
import Derived.Deep.RegionHeld3
import Derived.Deep.RegionWith
import Derived.Deep.QuietTactic
import Derived.BigQuiet
namespace Go.Proofs.YtacfglopionkfaaGreatDoor
set_option maxRecDepth 100000
open Go.RowKit
def Tk.DY (bv:Value) (t:Tk):Array Value:= #[bv,.int .i64 t.kind,.int .i64 t.start,.int .i64 t.stop,.string t.text,.int .i64 t.num,.bool t.over]
def Rd (w:World) (rb:Nat) (bv:Value) (t:Tk):Prop:=w.heap[rb]? =some (.cells (t.DY bv) 136)
def Ch (rb:Nat) (w w':World):Prop:=Below rb w w'∧ ∀i,i<w.heap.size→i≠rb→w'.heap[i]? =w.heap[i]?
theorem lt_of_heap {w:World} {k:Nat} {o:Obj} (h:w.heap[k]? =some o):k<w.heap.size:=by
 rcases Nat.lt_or_ge k w.heap.size with h' | h'
 ·exact h'
 ·rw [Array.getElem?_eq_none h'] at h;cases h
theorem Ch.refl (rb:Nat) (w:World):Ch rb w w:=⟨Below.refl _ _,fun _ _ _=>rfl⟩
theorem Ch.trans {rb:Nat} {w w1 w2:World} (h:Ch rb w w1) (h':Ch rb w1 w2):Ch rb w w2:=
 ⟨h.1.trans h'.1,fun i hi hb=>(h'.2 i (Nat.lt_of_lt_of_le hi h.1.size) hb).trans (h.2 i hi hb)⟩
theorem Ch.of_below {rb:Nat} {w w':World} (h:Below w.heap.size w w') (hrb:rb≤w.heap.size):Ch rb w w':=⟨h.mono hrb,fun _ hi _=>h.block _ hi⟩
theorem Ch.set {rb:Nat} (w:World) (o:Nat) (v:Value):Ch rb w (w.setCell ⟨rb,o,none⟩ v):=
 ⟨(Below.refl rb w).setCell (p:=⟨rb,o,none⟩) (Nat.le_refl rb) _,fun _ _ hb=>Below.heap_setCell _ _ _ _ hb⟩
theorem Rd.facts {w:World} {rb:Nat} {bv:Value} {t:Tk} (h:Rd w rb bv t):
  (w.cell? ⟨rb,0,none⟩=some bv∧w.cell? ⟨rb,1,none⟩=some (.int .i64 t.kind)∧w.cell? ⟨rb,2,none⟩=some (.int .i64 t.start)∧w.cell? ⟨rb,3,none⟩=some (.int .i64 t.stop)∧w.cell? ⟨rb,4,none⟩=some (.string t.text)∧w.cell? ⟨rb,5,none⟩=some (.int .i64 t.num)∧w.cell? ⟨rb,6,none⟩=some (.bool t.over))∧
  (w.frozen? ⟨rb,1,none⟩=false∧w.frozen? ⟨rb,2,none⟩=false∧w.frozen? ⟨rb,3,none⟩=false∧w.frozen? ⟨rb,4,none⟩=false∧w.frozen? ⟨rb,5,none⟩=false∧w.frozen? ⟨rb,6,none⟩=false)∧rb<w.heap.size:=by
 have hb:=lt_of_heap h
 unfold Rd Tk.DY at h
 refine ⟨⟨?_,?_,?_,?_,?_,?_,?_⟩,⟨?_,?_,?_,?_,?_,?_⟩,hb⟩<;>simp [World.cell?,World.frozen?,h]
def JK (w:World) (rb:Nat) (t:Tk):World:=(((((w.setCell ⟨rb,1,none⟩ (.int .i64 t.kind)).setCell ⟨rb,2,none⟩ (.int .i64 t.start)).setCell ⟨rb,3,none⟩ (.int .i64 t.stop)).setCell ⟨rb,4,none⟩ (.string t.text)).setCell ⟨rb,5,none⟩ (.int .i64 t.num)).setCell ⟨rb,6,none⟩ (.bool t.over)
theorem O8 (w:World) (rb:Nat) (t:Tk):Ch rb w (JK w rb t):=(((((Ch.set w _ _).trans (Ch.set _ _ _)).trans (Ch.set _ _ _)).trans (Ch.set _ _ _)).trans (Ch.set _ _ _)).trans (Ch.set _ _ _)
theorem aU {w:World} {b:Nat} {cs:Array Value} {t:TypeId} {z:Nat × Nat} (h:w.heap[b]? =some (.cells cs t z)) (o:Nat) (v:Value):(w.setCell ⟨b,o,none⟩ v).heap[b]? =some (.cells (cs.setIfInBounds o v) t z):=by
 show (w.heap.modify b _)[b]? =_
 rw [Array.getElem?_modify,if_pos rfl,h]
 rfl
theorem Rd.put {w:World} {rb:Nat} {bv:Value} {t:Tk} (h:Rd w rb bv t) (t':Tk):Rd (JK w rb t') rb bv t':=by
 have:=aU (aU (aU (aU (aU (aU h 1 (.int .i64 t'.kind)) 2 (.int .i64 t'.start)) 3 (.int .i64 t'.stop)) 4 (.string t'.text)) 5 (.int .i64 t'.num)) 6 (.bool t'.over)
 simpa [Tk.DY,JK,Rd] using this
theorem Rd.setRow {w:World} {rb:Nat} {bv:Value} {t:Tk} (h:Rd w rb bv t) {g:Nat} (hg:g≠rb) (c:Array Value):Rd (w.setRow g c) rb bv t:=by
 unfold Rd at h⊢
 show (w.heap.modify g _)[rb]? =_
 rw [Array.getElem?_modify,if_neg hg]
 exact h
theorem Ch.setRow {w w':World} {rb:Nat} (h:Ch rb w w') {g:Nat} (hg:w.heap.size≤g) (hr:rb≤g) (c:Array Value):Ch rb w (w'.setRow g c):=
 ⟨below_setRow h.1 hr c,fun i hi hb=>by
  show (w'.heap.modify g _)[i]? =_
  rw [Array.getElem?_modify,if_neg (by omega)]
  exact h.2 i hi hb⟩
set_option maxHeartbeats 4000000 in
theorem take_any (rb:Nat) (bv:Value) (l:List Int) (t:Tk) (w:World) (h:Rd w rb bv t) (hs:Sl w bv l) (hp:t.stop≤l.length):
  Calls Tryz.prog 107 #[.pointer (some ⟨rb,0,none⟩)] w fun e w'=>e= .returned t.v∧Rd w' rb bv (tok l t.stop)∧Ch rb w w':=by
 obtain ⟨⟨c0,c1,c2,c3,c4,c5,c6⟩,⟨f1,f2,f3,f4,f5,f6⟩,hb⟩:=h.facts
 obtain ⟨t',ht'⟩: ∃t',tok l t.stop=t':=⟨_,rfl⟩
 rw [ht']
 have HN:=Lib.hid ht'
 clear ht'
 have HS:=Lib.hid hs
 have HH:=Lib.hid h
 clear h hs
 go_enter Tryz.func107,Tryz.ntmps107
 go_wp2_with fail
 obtain ⟨W,hW⟩: ∃W:World,W=(w.alloc (.cells #[.int .i64 0,.int .i64 0,.int .i64 0,.string ⟨#[]⟩,.int .i64 0,.bool false] 133)).alloc (.cells #[.int .i64 t.kind,.int .i64 t.start,.int .i64 t.stop,.string t.text,.int .i64 t.num,.bool t.over] 133):=⟨_,rfl⟩
 rw [←hW]
 have HB:Hid (Below w.heap.size w W):=Lib.hid (by rw [hW];exact ((Below.refl _ _).alloc (Nat.le_refl _) _).alloc (by simp) _)
 have HT:Hid (W.heap[w.heap.size+1]? =some (.cells #[.int .i64 t.kind,.int .i64 t.start,.int .i64 t.stop,.string t.text,.int .i64 t.num,.bool t.over] 133)):=Lib.hid (by
  rw [hW]
  show ((w.heap.push _).push _)[w.heap.size+1]? =_
  rw [Array.getElem?_push,if_pos (by simp)])
 have HR:Hid (W.heap[w.heap.size]? =some (.cells #[.int .i64 0,.int .i64 0,.int .i64 0,.string ⟨#[]⟩,.int .i64 0,.bool false] 133)):=Lib.hid (by
  rw [hW]
  show ((w.heap.push _).push _)[w.heap.size]? =_
  rw [Array.getElem?_push,if_neg (by simp),Array.getElem?_push,if_pos rfl])
 clear hW
 have SA:Hid (Rd W rb bv t):=Lib.hid ((HB.out.block rb hb).trans HH.out)
 clear c0 c1 c2 c3 c4 c5 c6 f1 f2 f3 f4 f5 f6
 obtain ⟨⟨c0,c1,c2,c3,c4,c5,c6⟩,⟨f1,f2,f3,f4,f5,f6⟩,hb'⟩:=SA.out.facts
 have ht2:W.cell? ⟨w.heap.size+1,2,none⟩=some (.int .i64 t.stop):=by simp [World.cell?,HT.out]
 have Yu:Hid (Sl W bv l):=Lib.hid (HS.out.below HB.out)
 go_region_with (go_at_call 72;refine (ni bv l t.stop t' HN.out W.drew Yu.out hp).mono ?_;rintro e w1 ⟨rfl,hb1⟩;have hB1:Hid (Below W.heap.size W w1):=Lib.hid ((Below.refl W.heap.size W).drew.trans hb1);clear hb1;have hr1:Hid (Rd w1 rb bv t):=Lib.hid ((hB1.out.block rb hb').trans SA.out);obtain ⟨⟨d0,d1,d2,d3,d4,d5,d6⟩,⟨g1,g2,g3,g4,g5,g6⟩,hb1'⟩:=hr1.out.facts)
 all_goals
  obtain ⟨V,hV⟩: ∃V:World,V=JK w1 rb t':=⟨_,rfl⟩
  have hV':=hV
  unfold JK at hV'
  rw [←hV']
  clear hV'
  have Gf:Hid (Rd V rb bv t'):=Lib.hid (by rw [hV];exact hr1.out.put t')
  have NC:Hid (Ch rb W V):=Lib.hid (by rw [hV];exact (Ch.of_below hB1.out (Nat.le_of_lt hb')).trans (O8 _ _ _))
  clear hV d0 d1 d2 d3 d4 d5 d6 g1 g2 g3 g4 g5 g6 c0 c1 c2 c3 c4 c5 c6 f1 f2 f3 f4 f5 f6 ht2 hr1 hB1
  have HVT:Hid (V.heap[w.heap.size+1]? =some (.cells #[.int .i64 t.kind,.int .i64 t.start,.int .i64 t.stop,.string t.text,.int .i64 t.num,.bool t.over] 133)):=Lib.hid ((NC.out.2 _ (lt_of_heap HT.out) (by omega)).trans HT.out)
  have Q5:Hid (V.heap[w.heap.size]? =some (.cells #[.int .i64 0,.int .i64 0,.int .i64 0,.string ⟨#[]⟩,.int .i64 0,.bool false] 133)):=Lib.hid ((NC.out.2 _ (lt_of_heap HR.out) (by omega)).trans HR.out)
  go_wp2_with (first | (refine wpList_load_row rfl 133 _ rfl (w.heap.size+1) rfl 133 _ (0,0) _ HVT.out Tryz.underlying133 rfl zH ?_) | (refine jX rfl _ _ rfl rfl w.heap.size t.kind t.start t.stop t.text t.num t.over rfl rfl _ Q5.out rfl ?_))
  exact bodyPost_ret (results_cell_row rfl _ _ w.heap.size 133 #[.int .i64 t.kind,.int .i64 t.start,.int .i64 t.stop,.string t.text,.int .i64 t.num,.bool t.over] (0,0) _ rfl (setRow_self Q5.out _) Tryz.underlying133 rfl zH) rfl ⟨rfl,Gf.out.setRow (by omega) _,((Ch.of_below HB.out (Nat.le_of_lt hb)).trans NC.out).setRow (Nat.le_refl _) (Nat.le_of_lt hb) _⟩
def Bad (s:Nat→Addr) (c p:Nat) (e:Ending) (w':World):Prop:= ∃v,e= .panicked [{v:= .iface 89 v,recovered:=false}]∧ErrAt w' s c p (.iface 89 v)
theorem below_drewN {B:Nat} {w W:World} (h:Below B w W) (n:Nat):Below B w (W.drewN n):=⟨h.os,h.tape,h.output,h.size,h.block⟩
theorem Ch.step {rb:Nat} {w w1 w2:World} (h:Ch rb w w1) (hb:Below w1.heap.size w1 w2) (hrb:rb≤w1.heap.size):Ch rb w w2:=h.trans (Ch.of_below hb hrb)
set_option maxHeartbeats 4000000 in
theorem nC (rb:Nat) (bv:Value) (t:Tk) (s:Nat→Addr) (w:World) (h:Rd w rb bv t) (hs:Er w s):
  Calls Tryz.prog 74 #[.pointer (some ⟨rb,0,none⟩)] w fun e w'=>Bad s t.code t.start e w'∧Below w.heap.size w w':=by
 obtain ⟨⟨c0,c1,c2,c3,c4,c5,c6⟩,_,hb⟩:=h.facts
 clear h
 have HR3:=Lib.hid (lI s w hs 3 t.start (by omega))
 have Aw:=Lib.hid (lI s w hs 6 t.start (by omega))
 clear hs
 have HC:Hid (t.code=if t.over then 6 else 3):=Lib.hid rfl
 generalize t.code=cd at*
 generalize t.over=ov at*
 cases ov with
 | true=>
  obtain rfl:cd=6:=HC.out
  go_enter Tryz.func74,Tryz.ntmps74
  go_wp2_with (go_at_call 37;refine Aw.out.mono ?_;rintro e w' ⟨⟨rfl,he⟩,hb⟩)
  exact ⟨rfl,⟨_,rfl,he⟩,hb⟩
 | false=>
  obtain rfl:cd=3:=HC.out
  go_enter Tryz.func74,Tryz.ntmps74
  go_wp2_with (go_at_call 37;refine HR3.out.mono ?_;rintro e w' ⟨⟨rfl,he⟩,hb⟩)
  exact ⟨rfl,⟨_,rfl,he⟩,hb⟩
set_option maxHeartbeats 4000000 in
theorem nJ (rb:Nat) (bv:Value) (l:List Int) (t:Tk) (x:ByteArray) (w:World) (h:Rd w rb bv t) (hs:Sl w bv l) (hp:t.stop≤l.length) (hx:t.text=x):
  Calls Tryz.prog 146 #[.pointer (some ⟨rb,0,none⟩),.string x] w fun e w'=>e= .returned (.tuple #[])∧Rd w' rb bv (tok l t.stop)∧Ch rb w w':=by
 obtain ⟨⟨c0,c1,c2,c3,c4,c5,c6⟩,_,hb⟩:=h.facts
 have HT:=Lib.hid (take_any rb bv l t w h hs hp)
 clear h hs
 subst hx
 have hq:(t.text.toList==t.text.toList)=true:=by simp
 go_enter Tryz.func146,Tryz.ntmps146
 go_wp2_with (go_at_call 107;refine HT.out.mono ?_;rintro e w' ⟨rfl,hr,hc⟩)
 go_end0
 exact ⟨rfl,hr,hc⟩
set_option maxHeartbeats 4000000 in
theorem uq (rb:Nat) (bv:Value) (t:Tk) (x:ByteArray) (s:Nat→Addr) (w:World) (h:Rd w rb bv t) (hs:Er w s) (hx: ¬t.text=x):
  Calls Tryz.prog 146 #[.pointer (some ⟨rb,0,none⟩),.string x] w fun e w'=>Bad s t.code t.start e w'∧Below w.heap.size w w':=by
 obtain ⟨⟨c0,c1,c2,c3,c4,c5,c6⟩,_,hb⟩:=h.facts
 have HT:=Lib.hid (nC rb bv t s w h hs)
 clear h hs
 have hq:(t.text.toList==x.toList)=false:=by rw [sV];simpa using hx
 clear hx
 go_enter Tryz.func146,Tryz.ntmps146
 go_wp2_with (go_at_call 74;refine HT.out.mono ?_;rintro e w' ⟨⟨v,rfl,he⟩,hb⟩)
 exact ⟨rfl,⟨_,rfl,he⟩,hb⟩
def Tr.v (t:Tr) (kv:Value):Value:= .agg #[.string t.op,.int .i64 t.val,.string t.nm,.int .i64 t.pos,.int .i64 t.aG,kv]
def Tr.cells (t:Tr) (kv:Value):List Value:=[.string t.op,.int .i64 t.val,.string t.nm,.int .i64 t.pos,.int .i64 t.aG,kv]
def Tr.In (w:World) (lo:Nat):Tr→Value→Prop
 | .num _ _,kv=>kv= .slice none 0 0
 | .name _ _,kv=>kv= .slice none 0 0
 | .un _ _ a,kv=> ∃k ka,kv= .slice (some ⟨k,0,none⟩) 1 1∧lo≤k∧w.heap[k]? =some (.cells (a.cells ka).toArray 30)∧a.In w lo ka
 | .bin _ _ a b,kv=> ∃k ka kb,kv= .slice (some ⟨k,0,none⟩) 2 2∧lo≤k∧w.heap[k]? =some (.cells (a.cells ka++b.cells kb).toArray 30)∧a.In w lo ka∧b.In w lo kb
 | .cond _ _ a b c,kv=> ∃k ka kb kc,kv= .slice (some ⟨k,0,none⟩) 3 3∧lo≤k∧w.heap[k]? =some (.cells (a.cells ka++b.cells kb++c.cells kc).toArray 30)∧a.In w lo ka∧b.In w lo kb∧c.In w lo kc
 | .eF _ _ _ _ a,kv=> ∃k ka,kv= .slice (some ⟨k,0,none⟩) 1 1∧lo≤k∧w.heap[k]? =some (.cells (a.cells ka).toArray 30)∧a.In w lo ka
theorem Tr.In.kept {w w':World} {lo:Nat} (h: ∀k,lo≤k→k<w.heap.size→w'.heap[k]? =w.heap[k]?): ∀(t:Tr) (kv:Value),t.In w lo kv→t.In w' lo kv
 | .num _ _,_,hi=>hi
 | .name _ _,_,hi=>hi
 | .un _ _ a,_,⟨k,ka,e,hl,hk,ha⟩=>⟨k,ka,e,hl,(h k hl (lt_of_heap hk)).trans hk,ha.kept h a ka⟩
 | .bin _ _ a b,_,⟨k,ka,kb,e,hl,hk,ha,hb⟩=>⟨k,ka,kb,e,hl,(h k hl (lt_of_heap hk)).trans hk,ha.kept h a ka,hb.kept h b kb⟩
 | .cond _ _ a b c,_,⟨k,ka,kb,kc,e,hl,hk,ha,hb,hc⟩=>⟨k,ka,kb,kc,e,hl,(h k hl (lt_of_heap hk)).trans hk,ha.kept h a ka,hb.kept h b kb,hc.kept h c kc⟩
 | .eF _ _ _ _ a,_,⟨k,ka,e,hl,hk,ha⟩=>⟨k,ka,e,hl,(h k hl (lt_of_heap hk)).trans hk,ha.kept h a ka⟩
theorem Tr.In.ch {w w':World} {rb lo:Nat} {t:Tr} {kv:Value} (hi:t.In w lo kv) (hl:rb<lo) (h:Ch rb w w'):t.In w' lo kv:=
 hi.kept (fun k hk hs=>h.2 k hs (by omega)) t kv
theorem Tr.In.mono {w:World} {lo lo':Nat} (h:lo'≤lo): ∀(t:Tr) (kv:Value),t.In w lo kv→t.In w lo' kv
 | .num _ _,_,hi=>hi
 | .name _ _,_,hi=>hi
 | .un _ _ a,_,⟨k,ka,e,hl,hk,ha⟩=>⟨k,ka,e,by omega,hk,Tr.In.mono h a ka ha⟩
 | .bin _ _ a b,_,⟨k,ka,kb,e,hl,hk,ha,hb⟩=>⟨k,ka,kb,e,by omega,hk,Tr.In.mono h a ka ha,Tr.In.mono h b kb hb⟩
 | .cond _ _ a b c,_,⟨k,ka,kb,kc,e,hl,hk,ha,hb,hc⟩=>⟨k,ka,kb,kc,e,by omega,hk,Tr.In.mono h a ka ha,Tr.In.mono h b kb hb,Tr.In.mono h c kc hc⟩
 | .eF _ _ _ _ a,_,⟨k,ka,e,hl,hk,ha⟩=>⟨k,ka,e,by omega,hk,Tr.In.mono h a ka ha⟩
def Good (rb lo:Nat) (bv:Value) (t:Tr) (n:Tk) (e:Ending) (w':World):Prop:= ∃kv,e= .returned (.agg #[.string t.op,.int .i64 t.val,.string t.nm,.int .i64 t.pos,.int .i64 t.aG,kv])∧t.In w' lo kv∧Rd w' rb bv n
theorem aN {w:World} {k:Nat} {o:Obj} (h:w.heap[k]? =some o) (o':Obj):(w.alloc o').heap[k]? =some o:=by
 show (w.heap.push o')[k]? =_
 rw [Array.getElem?_push,if_neg (by have:=lt_of_heap h;omega)]
 exact h
theorem Rd.alloc {w:World} {rb:Nat} {bv:Value} {t:Tk} (h:Rd w rb bv t) (o:Obj):Rd (w.alloc o) rb bv t:=aN h o
theorem Ch.alloc {w w':World} {rb:Nat} (h:Ch rb w w') (o:Obj) (hr:rb≤w'.heap.size):Ch rb w (w'.alloc o):=h.step ((Below.refl _ _).alloc (Nat.le_refl _) o) hr
theorem Bd:(Tryz.prog.info? 30).map (·.size)=some 6:=by kernel_rfl
theorem aC {ops:Array Oper} {rest:List Oper} {o:Oper} {a:Act} {w:World} {Q:Exit→Act→World→Prop} (hgd:o.guard=none) (x y:Operand) (ho:o.op= .store 30 x y)
  (hd:o.dst=none) (g:Nat) (op:ByteArray) (nv:Int) (nm:ByteArray) (p q:Int) (kv:Value) (hk:kv.oneCell'=true) (hx:a.eval x= .pointer (some ⟨g,0,none⟩)) (hy:a.eval y= .agg #[.string op,.int .i64 nv,.string nm,.int .i64 p,.int .i64 q,kv])
  (old:Array Value) (hg:w.heap[g]? =some (.cells old 30 (0,0))) (hold:old.size=6)
  (h:wpList Tryz.prog ops Q rest a (w.setRow g #[.string op,.int .i64 nv,.string nm,.int .i64 p,.int .i64 q,kv])):wpList Tryz.prog ops Q (o::rest) a w:=
 wpList_store_rowTo hgd _ x y ho hd g _ hx hy _ old hg Bd hold (by simp [Value.oneCell'] at hk⊢;exact hk) h
theorem aI {fn:Func} {p:Tmp} (h:fn.results= #[.cell p 30]) (tmps:Array Value) (w:World) (g:Nat) (cs:Array Value)
  (hp:tmps.getD p undef= .pointer (some ⟨g,0,none⟩)) (hg:w.heap[g]? =some (.cells cs 30 (0,0))) (hs:cs.size=6):
  (results fn tmps).run Tryz.prog w= .ok (.agg cs) w:=
 results_cell_row h tmps w g _ cs (0,0) _ hp hg Tryz.underlying30 rfl (by rw [hs];exact Bd)
set_option maxHeartbeats 4000000 in
theorem yc (rb:Nat) (bv:Value) (t:Tk) (s:Nat→Addr) (w:World) (h:Rd w rb bv t) (hs:Er w s) (ho:t.over=true):
  Calls Tryz.prog 188 #[.pointer (some ⟨rb,0,none⟩)] w fun e w'=>Bad s 6 t.start e w'∧Ch rb w w':=by
 have hrb:=lt_of_heap h
 have HT:Hid (∀W,Below w.heap.size w W→Calls Tryz.prog 74 #[.pointer (some ⟨rb,0,none⟩)] W fun e w'=>Bad s 6 t.start e w'∧Below W.heap.size W w'):=Lib.hid (fun W hW=>by
  have:=nC rb bv t s W ((hW.block rb hrb).trans h) (hs.below hW)
  have e:t.code=6:=by unfold Tk.code;rw [if_pos ho]
  rw [e] at this
  exact this)
 obtain ⟨⟨c0,c1,c2,c3,c4,c5,c6⟩,_,hb⟩:=h.facts
 rw [ho] at c6
 clear h hs ho
 go_enter Tryz.func188,Tryz.ntmps188
 go_wp2_with (go_at_call 74;refine (HT.out _ ((Below.refl _ _).alloc (Nat.le_refl _) _)).mono ?_;rintro e w' ⟨⟨v,rfl,he⟩,hb'⟩)
 exact ⟨rfl,⟨_,rfl,he⟩,(Ch.of_below ((Below.refl _ _).alloc (Nat.le_refl _) _) (Nat.le_of_lt hrb)).step hb' (by simp;omega)⟩
set_option maxHeartbeats 4000000 in
theorem yg (rb:Nat) (bv:Value) (l:List Int) (t:Tk) (s:Nat→Addr) (w:World) (h:Rd w rb bv t) (hsl:Sl w bv l) (hp:t.stop≤l.length) (hs:Er w s) (ho:t.over=false) (hg:gG l t.stop=true):
  Calls Tryz.prog 188 #[.pointer (some ⟨rb,0,none⟩)] w fun e w'=>Bad s 3 t.stop e w'∧Ch rb w w':=by
 have hrb:=lt_of_heap h
 have HG:Hid (∀W,Below w.heap.size w W→Calls Tryz.prog 205 #[bv,.int .i64 t.stop] W fun e w'=>e= .returned (.bool true)∧W=w'):=Lib.hid (fun W hW=>by
  have:=wQ bv l t.stop W (hsl.below hW) hp
  rw [hg] at this
  exact this)
 have HT:Hid (∀W,Below w.heap.size w W→Calls Tryz.prog 37 #[.int .i64 3,.int .i64 t.stop] W fun e w'=>(e= .returned (.iface 89 (.pointer (some ⟨W.heap.size+1,0,none⟩)))∧
   ErrAt w' s 3 t.stop (.iface 89 (.pointer (some ⟨W.heap.size+1,0,none⟩))))∧Below W.heap.size W w'):=Lib.hid (fun W hW=>lI s W (hs.below hW) 3 t.stop (by omega))
 obtain ⟨⟨c0,c1,c2,c3,c4,c5,c6⟩,_,hb⟩:=h.facts
 have HR0:=Lib.hid h
 rw [ho] at c6
 clear h hs hsl hg
 go_enter Tryz.func188,Tryz.ntmps188
 go_wp2_with fail
 obtain ⟨W,hW⟩: ∃W:World,W=w.alloc (.cells #[.string ⟨#[]⟩,.int .i64 0,.string ⟨#[]⟩,.int .i64 0,.int .i64 0,.slice none 0 0] 30):=⟨_,rfl⟩
 rw [←hW]
 have HB:Hid (Below w.heap.size w W):=Lib.hid (by rw [hW];exact (Below.refl _ _).alloc (Nat.le_refl _) _)
 clear hW
 have HR:Hid (Rd W rb bv t):=Lib.hid ((HB.out.block rb hrb).trans HR0.out)
 clear c0 c1 c2 c3 c4 c5 c6
 obtain ⟨⟨c0,c1,c2,c3,c4,c5,c6⟩,_,hb⟩:=HR.out.facts
 have HG2:Hid (∀n,Calls Tryz.prog 205 #[bv,.int .i64 t.stop] (W.drewN n) fun e w'=>e= .returned (.bool true)∧w'=W.drewN n):=Lib.hid (fun n=>(HG.out (W.drewN n) (below_drewN HB.out n)).mono fun _ _ h=>⟨h.1,h.2.symm⟩)
 go_quiet ((go_at_call 205;exact Calls.quiet_of_same (HG2.out _)))
 have Nv:Hid (∀n,Below w.heap.size w (W.drewN n)):=Lib.hid (fun n=>below_drewN HB.out n)
 go_wp2_with (go_at_call 37;refine (HT.out _ (Nv.out _)).mono ?_;rintro e w' ⟨⟨rfl,he⟩,hb'⟩)
 exact ⟨rfl,⟨_,rfl,he⟩,(Ch.of_below (Nv.out _) (Nat.le_of_lt hrb)).step hb' (Nat.le_trans (Nat.le_of_lt hrb) (Nv.out _).size)⟩
set_option maxHeartbeats 4000000 in
theorem Ac (rb:Nat) (bv:Value) (l:List Int) (t:Tk) (w:World) (h:Rd w rb bv t) (hsl:Sl w bv l) (hp:t.stop≤l.length) (ho:t.over=false) (hg:gG l t.stop=false):
  Calls Tryz.prog 188 #[.pointer (some ⟨rb,0,none⟩)] w fun e w'=>Good rb w.heap.size bv (.num t.num t.start) (tok l t.stop) e w'∧Ch rb w w':=by
 have hrb:=lt_of_heap h
 have HG:Hid (∀W,Below w.heap.size w W→Calls Tryz.prog 205 #[bv,.int .i64 t.stop] W fun e w'=>e= .returned (.bool false)∧W=w'):=Lib.hid (fun W hW=>by
  have:=wQ bv l t.stop W (hsl.below hW) hp
  rw [hg] at this
  exact this)
 have HT:Hid (∀W,Below w.heap.size w W→Calls Tryz.prog 107 #[.pointer (some ⟨rb,0,none⟩)] W fun e w'=>e= .returned (.agg #[.int .i64 t.kind,.int .i64 t.start,.int .i64 t.stop,.string t.text,.int .i64 t.num,.bool t.over])∧Rd w' rb bv (tok l t.stop)∧Ch rb W w'):=Lib.hid (fun W hW=>
  take_any rb bv l t W ((hW.block rb hrb).trans h) (hsl.below hW) hp)
 obtain ⟨⟨c0,c1,c2,c3,c4,c5,c6⟩,_,hb⟩:=h.facts
 have HR0:=Lib.hid h
 rw [ho] at c6
 generalize tok l t.stop=t' at*
 clear h hsl hg
 go_enter Tryz.func188,Tryz.ntmps188
 go_wp2_with fail
 obtain ⟨W,hW⟩: ∃W:World,W=w.alloc (.cells #[.string ⟨#[]⟩,.int .i64 0,.string ⟨#[]⟩,.int .i64 0,.int .i64 0,.slice none 0 0] 30):=⟨_,rfl⟩
 rw [←hW]
 have HB:Hid (Below w.heap.size w W):=Lib.hid (by rw [hW];exact (Below.refl _ _).alloc (Nat.le_refl _) _)
 have HA:Hid (W.heap[w.heap.size]? =some (.cells #[.string ⟨#[]⟩,.int .i64 0,.string ⟨#[]⟩,.int .i64 0,.int .i64 0,.slice none 0 0] 30)):=Lib.hid (by rw [hW];exact heap_alloc_last w _)
 clear hW
 have HR:Hid (Rd W rb bv t):=Lib.hid ((HB.out.block rb hrb).trans HR0.out)
 clear c0 c1 c2 c3 c4 c5 c6
 obtain ⟨⟨c0,c1,c2,c3,c4,c5,c6⟩,_,hb⟩:=HR.out.facts
 have HG2:Hid (∀n,Calls Tryz.prog 205 #[bv,.int .i64 t.stop] (W.drewN n) fun e w'=>e= .returned (.bool false)∧w'=W.drewN n):=Lib.hid (fun n=>(HG.out (W.drewN n) (below_drewN HB.out n)).mono fun _ _ h=>⟨h.1,h.2.symm⟩)
 go_quiet ((go_at_call 205;exact Calls.quiet_of_same (HG2.out _)))
 have Nv:Hid (∀n,Below w.heap.size w (W.drewN n)):=Lib.hid (fun n=>below_drewN HB.out n)
 clear c0 c1 c2 c3 c4 c5 c6
 go_wp2_with fail
 refine (HT.out _ (Nv.out _)).mono ?_
 rintro e w1 ⟨rfl,hr1,hc1⟩
 have HR1:=Lib.hid hr1
 have ou:Hid (Ch rb w w1):=Lib.hid ((Ch.of_below (Nv.out _) (Nat.le_of_lt hrb)).trans hc1)
 have HA1:Hid (w1.heap[w.heap.size]? =some (.cells #[.string ⟨#[]⟩,.int .i64 0,.string ⟨#[]⟩,.int .i64 0,.int .i64 0,.slice none 0 0] 30)):=Lib.hid ((hc1.2 _ (lt_of_heap HA.out) (by omega)).trans HA.out)
 clear hr1 hc1
 have YR:Hid (∀o,(w1.alloc o).heap[w.heap.size]? =some (.cells #[.string ⟨#[]⟩,.int .i64 0,.string ⟨#[]⟩,.int .i64 0,.int .i64 0,.slice none 0 0] 30)):=Lib.hid (fun o=>aN HA1.out o)
 have hrb1:=ou.out.1.size
 go_wp2_with (refine aC rfl _ _ rfl rfl w.heap.size ⟨#[110,117,109]⟩ t.num ⟨#[]⟩ t.start 0 (.slice none 0 0) rfl rfl rfl _ (YR.out _) rfl ?_)
 exact bodyPost_ret (aI rfl _ _ w.heap.size _ rfl (setRow_self (YR.out _) _) rfl) rfl ⟨⟨.slice none 0 0,rfl,rfl,(HR1.out.alloc _).setRow (by omega) _⟩,(ou.out.alloc _ (by omega)).setRow (Nat.le_refl _) (Nat.le_of_lt hrb) _⟩
end Go.Proofs.YtacfglopionkfaaGreatDoor
