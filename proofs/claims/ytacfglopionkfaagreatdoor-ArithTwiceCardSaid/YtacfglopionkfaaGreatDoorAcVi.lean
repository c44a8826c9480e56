import Derived.Test.YtacfglopionkfaaGreatDoorKVa
import Derived.Test.YtacfglopionkfaaGreatDoorKLh
import Derived.Maps.RangeWalk
import Derived.Sort.KeysCollected
import Derived.RangeFuncKeeps
import Derived.RangeFuncMany
import Derived.Maps.OwnIn
namespace Go.Proofs.YtacfglopionkfaaGreatDoor
open Go.RowKit Go.WideMaps Go.Maps Go.Shelf
theorem La {v:Value} {z:DataW Unit × List MemPlace} (h:zf v=some z): ∃p:ByteArray × ByteArray,v= .agg #[.string p.1,.string p.2]:=by
 unfold zf at h
 split at h
 ·rename_i hh;exact hh
 ·cases h
theorem FQ (x:List UInt8):KL ⟨x.toArray⟩= .string x:=by simp [KL]
theorem LH (x:List UInt8):kF ⟨x.toArray⟩=x:=by simp [kF]
theorem rP.entry {D:DataW Unit} {l:Vl} (h:rP D l) {x:List UInt8} {c:ByteArray × ByteArray} {yd:DataW Unit} {yp:List MemPlace} (hv:zf (.agg #[.string c.1,.string c.2])=some (yd,yp)) (hat: ∀zd,D.atKey (.string x) zd=yd):kF c.1=x∧dX l c.1=some c.2:=by
 rw [vT] at hv
 obtain ⟨rfl,_⟩:=Prod.mk.inj (Option.some.inj hv)
 obtain ⟨h1,h2⟩:=h ⟨x.toArray⟩
 rw [FQ,has_true_of_atKey hat] at h1
 obtain ⟨v,hl⟩:=Option.isSome_iff_exists.1 h1.symm
 have h3:=h2 v hl .nil
 rw [FQ,hat] at h3
 obtain ⟨e1,e2⟩:=Kq h3
 rw [e1,e2]
 exact ⟨LH x,hl⟩
set_option maxRecDepth 100000 in
set_option maxHeartbeats 4000000 in
theorem values1_in (F:Fence) (n:Nat) (hf:F.fn 89) (hro:F.round=none) (hn:1≤n) (l Bm b nn:Nat) (D0:DataW Unit) (vl:Vl) (hris:vl.lS) (hrep:rP D0 vl) (J Jx:List (ByteArray × ByteArray)→World→Prop)
  (hY: ∀pre x W,J pre W→pre.length<Maps.size D0→YieldAt F (n - 1) Tryz.prog l #[.agg #[.string x.1,.string x.2]] W fun e W'=>
   (e= .returned (.bool true)∧J (pre++[x]) W'∧KeepsWalks W W')∨(e= .returned (.bool false)∧Jx (pre++[x]) W'))
  (W:World) (hJ:AbidesFrom W.heap.size J) (hm:W.cell? ⟨Bm,0,none⟩=some (.map (some b))) (hown:W.ownsMap Tryz.prog 9 zf b nn D0) (h0:J [] W):
  CallsIn F n Tryz.prog 89 #[.func (.yield l) #[] #[],.pointer (some ⟨Bm,0,none⟩)] W fun e W'=>(∃v,e= .returned v)∧
   ((∃xs,xs.Perm vl∧J xs W')∨(∃pre,True∧Jx pre W')):=by
 refine callsIn_of_wp Tryz.func89 rfl hf ?_ hro
 simp only [Tryz.ntmps89,List.size_toArray,List.length_cons,List.length_nil,Nat.reduceAdd,Nat.reduceSub,Array.replicate_succ,Array.replicate_zero,List.push_toArray,List.append_toArray,List.nil_append,List.cons_append]
 have TT:=Lib.hid hris
 have DT:=Lib.hid hrep
 have HOWN:=Lib.hid hown
 have HY:=Lib.hid hY
 have HJ:=Lib.hid hJ
 clear hris hrep hown hY hJ
 gi_wp2_with (first
  | (gi_at_range;refine wpListIn_range_own _ rfl _ 101 rfl 9 96 rM Tryz.underlying101 _ b nn _ rfl HOWN.out ?_;intro w0 hrg0 hg0 hs0)
  | gi_in)
 go_frame
 gi_loopw [4] (fun _ wr=> ∃(left:Lit→Bool) (cnt:Nat) (ps:List (ByteArray × ByteArray)),wr.ranges Tryz.prog 9 zf b W.heap.size nn D0 left cnt∧ps.length+cnt≤Maps.size D0∧Collected D0 left (ps.map fun p=>kF p.1)∧(∀p∈ps,dX vl p.1=some p.2)∧J ps wr)
  (fun _ wr=>wr.rangeLeft b W.heap.size)
 case atStart=>
  exact ⟨_,_,[],hrg0,by simp,Collected.start D0,by simp,HJ.out [] W w0 none h0 hg0 (fun r e=>by cases e)⟩
 case round=>
  obtain ⟨left,cnt,ps,hrg,hcs,hC,hV,hJs⟩:=hrel
  gi_wp2_with (first
   | (gi_at_next;refine wpListIn_next_ranges _ rfl _ rfl 9 rM zf encStr (fun p:ByteArray × ByteArray=> .agg #[.string p.1,.string p.2]) (fun key kl hk=>by obtain ⟨x,hx,_⟩:=Maps.keyOf_str Tryz.underlying9 hk;exact ⟨x,hx⟩) (fun v y hv=>by obtain ⟨c,hc⟩:=La hv;exact ⟨c,hc⟩) b W.heap.size nn _ _ _ rfl hrg ?_ ?_)
   | gi_in)
  ·intro hc0 hl0
   gi_wp2
   go_end0
   refine ⟨⟨_,rfl⟩,.inl ⟨ps,?_,hJs⟩⟩
   have hnd:ps.Nodup:=List.Pairwise.of_map (fun p:ByteArray × ByteArray=>kF p.1) (fun a b h e=>h (by rw [e])) hC.1
   refine (List.perm_ext_iff_of_nodup hnd (rY TT.out)).2 fun p=>⟨fun hp=>(iD TT.out).1 (hV p hp),fun hp=>?_⟩
   have hl:=(iD TT.out).2 (show (p.1,p.2)∈vl from hp)
   have hh:=(DT.out p.1).1
   rw [hl] at hh
   have hin:=(hC.2 (kF p.1)).2 ⟨hh,hl0 _⟩
   obtain ⟨q,hq,he⟩:=List.mem_map.1 hin
   have e1:=pG he
   have e2:=hV q hq
   rw [e1,hl] at e2
   have:q=p:=Prod.ext e1 (Option.some.inj e2).symm
   exact this▸hq
  ·intro x c1 c2 kl yd yp w2 cnt2 hkey hlk hv hat hrg2 hlt hg2 hs2 hen
   obtain ⟨c,hcc⟩: ∃c:ByteArray × ByteArray,c=(c1,c2):=⟨_,rfl⟩
   obtain rfl:c1=c.1:=by rw [hcc]
   obtain rfl:c2=c.2:=by rw [hcc]
   clear hcc
   obtain ⟨x',ex,rfl,_⟩:=Maps.keyOf_str Tryz.underlying9 hkey
   obtain rfl:x=x':=encStr_inj ex
   obtain ⟨hnx,hlv⟩:=DT.out.entry hv hat
   have hJ2:J ps w2:=HJ.out _ wr w2 (some W.heap.size) hJs hg2 (fun r e=>by cases e;exact ⟨Nat.le_refl _,hrg.iter_walk⟩)
   have hJ3:J ps (w2.alloc (.cells #[.string c.1,.string c.2] 96)):=HJ.out _ w2 _ none hJ2 (World.grownBy_alloc w2 _ none) (fun r e=>by cases e)
   have Zu:=hrg2.kept (World.grownBy_alloc w2 (.cells #[.string c.1,.string c.2] 96) none) (by simp) (by simp)
   obtain ⟨fn,tmps,assign,body,hy,hR⟩:=HY.out ps c _ hJ3 (by omega)
   clear hs2
   gi_wp2
   refine hR.mono ?_
   have hC2:Collected D0 (fun z=>left z && !z.sameKey (.string x)) ((ps++[c]).map fun p=>kF p.1):=by simpa [hnx] using hC.step hlk hat
   have hV2: ∀p∈ps++[c],dX vl p.1=some p.2:=fun p hp=>(List.mem_append.1 hp).elim (hV p) (fun e=>by simp at e;subst e;exact hlv)
   rintro e W3 (⟨rfl,hJ4,hk3⟩ | ⟨rfl,hJx3⟩)
   ·gi_wp2
    have hrg3:=Zu.of_walks hk3
    go_roundw
    case rel=>exact ⟨_,cnt2,ps++[c],hrg3,by simp;omega,hC2,hV2,hJ4⟩
    case measure=>rw [hrg3.left_eq,hrg.left_eq];exact hlt
   ·gi_wp2
    refine bodyPost_ret (results_none rfl _ _ _) rfl ?_
    exact ⟨⟨_,rfl⟩,.inr ⟨_,trivial,hJx3⟩⟩
theorem values_stops (F:Fence) (n:Nat) (hf:F.fn 89) (hro:F.round=none) (hn:1≤n) (Bm b nn:Nat) (D0:DataW Unit) (vl:Vl) (hris:vl.lS) (hrep:rP D0 vl) (w:World) (hBm:Bm<w.heap.size) (hm:w.cell? ⟨Bm,0,none⟩=some (.map (some b))) (hown:w.ownsMap Tryz.prog 9 zf b nn D0):
  SeqStopsA F n Tryz.prog 89 #[.pointer (some ⟨Bm,0,none⟩)] (fun x:ByteArray × ByteArray=> #[.agg #[.string x.1,.string x.2]]) (fun xs=>xs.Perm vl) (fun _=>True) (Maps.size D0) w:=fun l J Jx W hW hJ _ hY h0=>
 values1_in F n hf hro hn l Bm b nn D0 vl hris hrep J Jx hY W hJ ((hW.cell (p:=⟨Bm,0,none⟩) hBm).trans hm) (qK hown (hW.block b hown.lt)) h0
end Go.Proofs.YtacfglopionkfaaGreatDoor
