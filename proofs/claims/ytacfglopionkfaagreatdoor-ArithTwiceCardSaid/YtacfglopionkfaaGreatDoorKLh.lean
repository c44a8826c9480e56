import Derived.Test.YtacfglopionkfaaGreatDoorKNu
import Derived.RangeFuncNested
import Derived.RangeFuncBound
import Derived.Shelf.RegionOpen
import Derived.OwnWalkIn
import Derived.LoopNIn
import Derived.LoopIn
import Derived.Test.YtacfglopionkfaaGreatDoorAcRn
namespace Go.Proofs.YtacfglopionkfaaGreatDoor
set_option maxRecDepth 100000
open Go.RowKit Go.WideMaps Go.Maps Go.Shelf
set_option maxHeartbeats 2000000 in
theorem ED (w:World):Calls Tryz.prog 163 #[.int .u64 0] w fun e w'=>e= .returned (.int .i64 0)∧w=w':=by
 go_enter Tryz.func163,Tryz.ntmps163
 go_wp2_with fail
 go_ret
 exact ⟨congrArg (fun x=>Ending.returned (.int .i64 x)) (show wrap64 (wrap64 (Lib.len8 0))=0 by kernel_rfl),rfl⟩
set_option maxHeartbeats 2000000 in
theorem LP (w:World):Calls Tryz.prog 121 #[.int .u64 0] w fun e w'=>e= .returned (.int .i64 0)∧w=w':=by
 go_enter Tryz.func121,Tryz.ntmps121
 go_wp2_with (go_at_call 163;refine (ED _).mono ?_;rintro e w' ⟨rfl,rfl⟩)
 go_ret
 exact ⟨rfl,rfl⟩
set_option maxHeartbeats 2000000 in
theorem PE (c:Value) (w:World):Calls Tryz.prog 154 #[.slice none 0 0,.int .i64 0,.int .i64 0,c] w fun e w'=>e= .returned (.tuple #[])∧w=w':=by
 go_enter Tryz.func154,Tryz.ntmps154
 go_wp2_with fail
 refine wp_loop_rounds 1 ?_
 rw [rounds_succ]
 go_wp2_with fail
 go_end0
 exact ⟨rfl,rfl⟩
set_option maxHeartbeats 2000000 in
theorem Ph (c:Value) (w:World):Calls Tryz.prog 120 #[.slice none 0 0,.int .i64 0,.int .i64 0,.int .i64 0,c] w fun e w'=>e= .returned (.tuple #[])∧w=w':=by
 have HI:=Lib.hid PE
 go_enter Tryz.func120,Tryz.ntmps120
 go_wp2_with fail
 refine wp_loop_rounds 1 ?_
 rw [rounds_succ]
 go_wp2_with fail
 refine (HI.out _ _).mono ?_
 rintro e w1 ⟨rfl,rfl⟩
 go_wp2_with fail
 refine bodyPost_ret (results_none rfl _ _ _) rfl ?_
 exact ⟨rfl,rfl⟩
set_option maxHeartbeats 2000000 in
theorem BG (c:Value) (w:World):Calls Tryz.prog 88 #[.slice none 0 0,c] w fun e w'=>e= .returned (.tuple #[])∧w=w':=by
 have HL:=Lib.hid LP
 have HP:=Lib.hid Ph
 go_enter Tryz.func88,Tryz.ntmps88
 go_wp2_with fail
 refine (HL.out _).mono ?_
 rintro e w1 ⟨rfl,rfl⟩
 go_wp2_with fail
 refine (HP.out _ _).mono ?_
 rintro e w1 ⟨rfl,rfl⟩
 go_wp2_with fail
 go_end0
 exact ⟨rfl,rfl⟩
set_option maxHeartbeats 2000000 in
theorem wJ (m:Option Nat) (w:World):Calls Tryz.prog 50 #[.map m] w fun e w'=>e= .returned (.func (.func 89) #[] #[.pointer (some ⟨w.heap.size,0,none⟩)])∧w'=w.alloc (.cells #[.map m] 101):=by
 go_enter Tryz.func50,Tryz.ntmps50
 go_wp2_with fail
 go_ret
 exact ⟨rfl,rfl⟩
set_option maxHeartbeats 2000000 in
theorem values1_nil_in (F:Fence) (n:Nat) (hf:F.fn 89) (hro:F.round=none) (l Bm:Nat) (J:List Empty→World→Prop) (W:World) (hJ:AbidesFrom W.heap.size J)
  (hm:W.cell? ⟨Bm,0,none⟩=some (.map none)) (h0:J [] W):
  CallsIn F n Tryz.prog 89 #[.func (.yield l) #[] #[],.pointer (some ⟨Bm,0,none⟩)] W fun e W'=>(∃v,e= .returned v)∧J [] W':=by
 refine callsIn_of_wp Tryz.func89 rfl hf ?_ hro
 simp only [Tryz.ntmps89,List.size_toArray,List.length_cons,List.length_nil,Nat.reduceAdd,Nat.reduceSub,Array.replicate_succ,Array.replicate_zero,List.push_toArray,List.append_toArray,List.nil_append,List.cons_append]
 have hrg:=run_range_nilMap (P:=Tryz.prog) W 101 9 96 Tryz.underlying101
 have hnx: ∀ty,(Instr.next (.pointer (some ⟨W.heap.size,0,none⟩)) false ty).run Tryz.prog (W.alloc (.mapIter none 0 #[] 0))=_:=fun ty=>run_next_nilMap _ ty 0 0 #[]
 gi_wp2
 refine wpIn_loop_rounds 1 ?_
 rw [roundsIn_succ]
 gi_wp2
 go_end0
 exact ⟨⟨_,rfl⟩,hJ [] W _ none h0 (World.grownBy_alloc W _ none) (fun r e=>by cases e)⟩
theorem values_stops_nil (F:Fence) (n:Nat) (hf:F.fn 89) (hro:F.round=none) (Bm:Nat) (w:World) (hBm:Bm<w.heap.size) (hm:w.cell? ⟨Bm,0,none⟩=some (.map none)):
  SeqStopsA F n Tryz.prog 89 #[.pointer (some ⟨Bm,0,none⟩)] (fun x:Empty=>x.elim) (fun _=>True) (fun _=>False) 0 w:=fun l J _ W hW hJ _ _ h0=>
 (values1_nil_in F n hf hro l Bm J W hJ ((hW.cell (p:=⟨Bm,0,none⟩) hBm).trans hm) h0).mono fun _ _ ⟨he,hj⟩=>⟨he,.inl ⟨[],trivial,hj⟩⟩
attribute [local go_sem] Oper.semAt_some in
set_option maxHeartbeats 2000000 in
theorem yh (Bm:Nat) (w:World) (hBm:Bm<w.heap.size) (hm:w.cell? ⟨Bm,0,none⟩=some (.map none)):Calls Tryz.prog 119 #[.slice none 0 0,.func (.func 89) #[] #[.pointer (some ⟨Bm,0,none⟩)]] w fun e W'=>e= .returned (.slice none 0 0)∧Below w.heap.size w W':=by
 refine (callsIn_wide (n:=3)).1 ?_
 refine callsIn_of_wp_marks Tryz.func119 rfl trivial ?_ rfl
 simp only [Tryz.ntmps119,List.size_toArray,List.length_cons,List.length_nil,Nat.reduceAdd,Nat.reduceSub,Array.replicate_succ,Array.replicate_zero,List.push_toArray,List.append_toArray,List.nil_append,List.cons_append]
 gi_wp2
 obtain ⟨W0,hW0⟩: ∃W0,w.alloc (.cells #[.slice none 0 0] 38)=W0:=⟨_,rfl⟩
 have hs0:W0.heap.size=w.heap.size+1:=by rw [←hW0];simp
 have hB0:W0.heap[w.heap.size]? =some (.cells #[.slice none 0 0] 38 (0,0)):=by rw [←hW0];exact World.alloc_heap_new w _
 have hBW:Below w.heap.size w W0:=by rw [←hW0];exact (Below.refl _ w).alloc (Nat.le_refl _) _
 have hm0:W0.cell? ⟨Bm,0,none⟩=some (.map none):=(hBW.cell (p:=⟨Bm,0,none⟩) hBm).trans hm
 rw [hW0]
 refine wpIn_rangeFunc_ownF (α:=Empty) rfl (by decide) (gf:=89) (lb:= #[.pointer (some ⟨Bm,0,none⟩)]) rfl trivial (enters_of Tryz.func89 (by kernel_rfl) rfl)
  (values_stops_nil Fence.wide _ trivial rfl Bm W0 (by omega) hm0) walksK_t walksK_b (Below.refl _ _) (fun x=>x.elim)
  (fun _ W=>W.cell? ⟨w.heap.size,0,none⟩=some (.slice none 0 0)∧Below w.heap.size w W)
  (fun _ _ _=>False)
  (OwnFrom.and (I:=fun (_:List Empty) (W:World)=>W.cell? ⟨w.heap.size,0,none⟩=some (.slice none 0 0)) (I':=fun (_:List Empty) W=>Below w.heap.size w W) (Own.from (I:=fun (_:List Empty) (W:World)=>W.cell? ⟨w.heap.size,0,none⟩=some (.slice none 0 0)) (fun _ A _ _ hs hg hr=>_root_.Go.cell_kept (show A.cell? ⟨w.heap.size,0,none⟩=some (.slice none 0 0) from hs) hg hr) _) (ownFrom_below (Nat.le_refl _) (by omega)))
  (fun _ _ _ _ _ hs _ _=>hs)
  ⟨(bU hB0).1,hBW⟩
  (fun x=>x.elim) ?assign ?body ?done ?stop
 case assign=>intro l x;exact x.elim
 case body=>intro l pre x;exact x.elim
 case done=>
  rintro D xs W hD _ ⟨hc,hB⟩ hK
  gi_wp2
  refine ⟨by simp,.inl ⟨_,_,rfl,run_takeDeferred hK,?_⟩⟩
  refine ⟨.slice none 0 0,?_,rfl,hB.trans (belowK_b (w:=w) (Nat.le_refl _) _ D _ _ (by omega) hK rfl rfl)⟩
  simp [results,Tryz.f119,go_sem]
 case stop=>
  rintro D c pre W _ hF _ _
  exact hF.elim
set_option maxHeartbeats 2000000 in
theorem CZ (Bm:Nat) (w:World) (hBm:Bm<w.heap.size) (hm:w.cell? ⟨Bm,0,none⟩=some (.map none)):Calls Tryz.prog 87 #[.func (.func 89) #[] #[.pointer (some ⟨Bm,0,none⟩)]] w fun e W'=>e= .returned (.slice none 0 0)∧Below w.heap.size w W':=by
 have HA:=Lib.hid (yh Bm w hBm hm)
 clear hBm hm
 go_enter Tryz.func87,Tryz.ntmps87
 go_wp2_with fail
 refine HA.out.mono ?_
 rintro e w1 ⟨rfl,hb1⟩
 have HB1:=Lib.hid hb1
 clear hb1
 go_wp2_with fail
 go_ret
 exact ⟨rfl,HB1.out⟩
set_option maxHeartbeats 2000000 in
theorem En (Bm:Nat) (c:Value) (w:World) (hBm:Bm<w.heap.size) (hm:w.cell? ⟨Bm,0,none⟩=some (.map none)):Calls Tryz.prog 49 #[.func (.func 89) #[] #[.pointer (some ⟨Bm,0,none⟩)],c] w fun e W'=>e= .returned (.slice none 0 0)∧Below w.heap.size w W':=by
 have HA:=Lib.hid (CZ Bm w hBm hm)
 have HS:=Lib.hid BG
 clear hBm hm
 go_enter Tryz.func49,Tryz.ntmps49
 go_wp2_with fail
 refine HA.out.mono ?_
 rintro e w1 ⟨rfl,hb1⟩
 have HB1:=Lib.hid hb1
 clear hb1
 go_wp2_with fail
 refine (HS.out _ _).mono ?_
 rintro e w2 ⟨rfl,rfl⟩
 go_wp2_with fail
 go_ret
 exact ⟨rfl,HB1.out⟩
set_option maxHeartbeats 2000000 in
theorem LM (vb:Nat) (w:World) (hv:w.heap[vb]? =some (.cells #[.map none] 103 (0,0))):Calls Tryz.prog 15 #[.pointer (some ⟨vb,0,none⟩)] w fun e w'=>e= .returned (.slice none 0 0)∧Below w.heap.size w w':=by
 have HV:=Lib.hid wJ
 have HS:Hid (∀(c:Value),Calls Tryz.prog 49 #[.func (.func 89) #[] #[.pointer (some ⟨w.heap.size,0,none⟩)],c] (w.alloc (.cells #[.map none] 101)) fun e W'=>e= .returned (.slice none 0 0)∧Below (w.heap.size+1) (w.alloc (.cells #[.map none] 101)) W'):=
  Lib.hid (fun c=>by
   have h:=En w.heap.size c (w.alloc (.cells #[.map none] 101)) (by simp) (bU (World.alloc_heap_new w _)).1
   simpa using h)
 obtain ⟨c0,_,hz⟩:=bU hv
 clear hv
 go_enter Tryz.func15,Tryz.ntmps15
 go_wp2_with fail
 refine (HV.out _ _).mono ?_
 rintro e w1 ⟨rfl,rfl⟩
 go_wp2_with fail
 refine (HS.out _).mono ?_
 rintro e w2 ⟨rfl,hb2⟩
 have HB2:=Lib.hid hb2
 clear hb2
 go_wp2_with fail
 go_ret
 exact ⟨rfl,((Below.refl _ w).alloc (Nat.le_refl _) _).trans (HB2.out.mono (by omega))⟩
end Go.Proofs.YtacfglopionkfaaGreatDoor
namespace Go.Proofs.YtacfglopionkfaaGreatDoor
set_option maxRecDepth 100000
open Go.RowKit
def rF (s:ByteArray):Bool:=decide (¬s=ak) && decide (fC (bT s)=s.size)
set_option maxHeartbeats 4000000 in
theorem EH (s:ByteArray) (w:World) (hl:s.size≤9223372036854775807):Calls Tryz.prog 18 #[.string s] w fun e w'=>e= .returned (.bool (rF s))∧Below w.heap.size w w':=by
 by_cases hE:s=ak
 ·obtain rfl:s=⟨#[]⟩:=hE
  have HF:rF ⟨#[]⟩=false:=rfl
  rw [HF]
  go_enter Tryz.func18,Tryz.ntmps18
  go_wp2_with fail
  go_ret
  exact ⟨rfl,Below.refl _ _⟩
 ·obtain ⟨cap,W1,hconv,hrow,hbel⟩:=mZ w s hl
  have HN:=Lib.hid (iP _ (bT s) W1 hrow)
  have tn:=aX (l:=[]) hE
  have HE:rF s=decide (fC (bT s)=s.size):=by unfold rF;rw [decide_eq_true hE,Bool.true_and]
  rw [HE]
  have HB:=Lib.hid hbel
  clear hrow hbel
  go_enter Tryz.func18,Tryz.ntmps18
  go_wp2_with fail
  refine HN.out.mono ?_
  rintro e w2 ⟨rfl,rfl⟩
  go_wp2_with fail
  go_ret
  exact ⟨bK (by rw [Bool.eq_iff_iff,beq_iff_eq,decide_eq_true_iff];omega),HB.out⟩
end Go.Proofs.YtacfglopionkfaaGreatDoor
