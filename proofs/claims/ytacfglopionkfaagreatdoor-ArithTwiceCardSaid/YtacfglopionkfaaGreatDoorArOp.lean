import Derived.Test.YtacfglopionkfaaGreatDoorKMt
import Derived.LoopTactic
import Derived.Laws.Rows
import Derived.Deep.WholeRow
import Derived.Great.BuildSlice
namespace Go.Proofs.YtacfglopionkfaaGreatDoor
open Go.RowKit
def qG:Array Value:=(aF.map Value.string).toArray
theorem Ey:qG.all (·.oneCell')=true:=by kernel_rfl
theorem qw {P:Program} {t e:TypeId} {n:Nat} {cs:Array Value} {k:Nat} {v:Value} {w:World} (hu:P.underlying t=some (.array n e)) (ha:(isAgg e).run P w= .ok false w) (hs:(sizeOf e).run P w= .ok 1 w)
  (hk:k<n) (hv:cs[k]? =some v):(Instr.index t (.agg cs) (.int .i64 (k:Int))).run P w= .ok v w:=by
 simp [Instr.index,run_underlying hu,asIntOf,go_sem,part,ha,hs,hv]
 intro h
 omega
theorem H8 (k:Nat) (h:k<35) (w:World):(Instr.index 196 (.agg qG) (.int .i64 (k:Int))).run Tryz.prog w= .ok (.string (aF.getD k ak)) w:=by
 refine qw Tryz.underlying196 (by kernel_rfl) (by kernel_rfl) h ?_
 have h':k<aF.length:=h
 simp [qG,List.getD,List.getElem?_eq_getElem h']
theorem yD (l:List Int) (k:Nat) (h:k<aF.length) (hb:begins l (aF.getD k ak)=true):dJ l (aF.drop k)=aF.getD k ak:=by
 rw [List.drop_eq_getElem_cons h]
 have e:aF.getD k ak=aF[k]:=by rw [List.getD,List.getElem?_eq_getElem h];rfl
 rw [e] at hb⊢
 unfold dJ
 rw [if_pos hb]
theorem wU (l:List Int) (k:Nat) (h:k<aF.length) (hb: ¬begins l (aF.getD k ak)=true):dJ l (aF.drop k)=dJ l (aF.drop (k+1)):=by
 have e:aF.getD k ak=aF[k]:=by rw [List.getD,List.getElem?_eq_getElem h];rfl
 rw [e] at hb
 rw [List.drop_eq_getElem_cons h]
 conv=>lhs;unfold dJ
 rw [if_neg hb]
theorem lq: ∀s∈aF,1≤s.size∧s.size≤3:=by decide
theorem AP (k:Nat):(aF.getD k ak).size≤3:=by
 by_cases h:k<aF.length
 ·rw [List.getD,List.getElem?_eq_getElem h];exact (lq _ (List.getElem_mem h)).2
 ·rw [List.getD,List.getElem?_eq_none (by omega)];decide
theorem Sl.take {w:World} {b o cap:Nat} {l:List Int} (hy:nN l) (_hl:l.length≤9223372036854775807) (hcl:l.length≤cap) (hcm:cap≤9223372036854775807) (hr:Row w b o l) (k:Nat) (hk:k≤l.length):
  Sl w (.slice (some ⟨b,o,none⟩) k cap) (l.take k):=by
 have hlen:(l.take k).length=k:=by rw [List.length_take];omega
 refine ⟨fun i=>?_,by omega,Or.inr ⟨b,o,cap,by rw [hlen],by omega,by omega,fun i hi=>?_⟩⟩
 ·by_cases h:i<k
  ·have:=hy i
   simpa [List.getD,List.getElem?_take,h] using this
  ·simp [List.getD,List.getElem?_take,h]
 ·rw [hr i (by omega)]
  have:i<k:=by omega
  simp [List.getD,this]
set_option maxRecDepth 100000 in
set_option maxHeartbeats 4000000 in
theorem uj (b o cap:Nat) (l:List Int) (w:World) (hl:l.length≤9223372036854775807) (hcl:l.length≤cap) (hcm:cap≤9223372036854775807) (hy:nN l) (hc:Row w b o l):
  Calls Tryz.prog 105 #[.slice (some ⟨b,o,none⟩) l.length cap] w fun e w'=>e= .returned (.string (mG l))∧Below w.heap.size w w':=by
 have HC:=Lib.hid hc
 have HY:=Lib.hid hy
 clear hc hy
 obtain ⟨n,hn⟩: ∃n,n=l.length:=⟨_,rfl⟩
 rw [←hn] at hl hcl⊢
 have HN:=Lib.hid hn
 clear hn
 go_enter Tryz.func105,Tryz.ntmps105
 go_wp2_with (first | (refine wpList_buildTo rfl 196 _ rfl (some 6) rfl qG (by kernel_rfl) ?_) | (refine wpList_store_rowTo rfl 196 _ _ rfl rfl w.heap.size qG rfl rfl 196 _ (heap_alloc_last w _) (by kernel_rfl) (by simp;rfl) Ey ?_;rw [World.setRow_alloc_new]) | (refine wpList_load_row rfl 196 _ rfl w.heap.size rfl 196 qG (0,0) _ (heap_alloc_last w _) Tryz.underlying196 rfl (by kernel_rfl) ?_))
 obtain ⟨wo,hwo⟩: ∃wo:World,wo=w.alloc (.cells qG 196):=⟨_,rfl⟩
 rw [←hwo]
 have HB:Hid (Below w.heap.size w wo):=Lib.hid (by rw [hwo];exact (Below.refl _ _).alloc (Nat.le_refl _) _)
 have HR:Hid (Row wo b o l):=Lib.hid (HC.out.below HB.out)
 clear hwo
 go_loop [5,8] (fun _ i=> ∃k:Nat,k≤35∧mG l=dJ l (aF.drop k)∧i= .int .i64 k) (fun _ i=>35 - (intOf i).toNat)
 case atStart=>exact ⟨0,by omega,rfl,rfl⟩
 case round=>
  obtain ⟨k,hk,hd,rfl⟩:=hrel
  have HD:=Lib.hid hd
  clear hd
  by_cases hlt:k<35
  ·have hat:=H8 k hlt wo
   have hsz:=AP k
   by_cases hb:begins l (aF.getD k ak)=true
   ·have HH:Hid (mG l=aF.getD k ak):=Lib.hid (HD.out.trans (yD l k hlt hb))
    generalize aF.getD k ak=s at*
    unfold begins at hb
    simp only [Bool.and_eq_true,decide_eq_true_eq] at hb
    obtain ⟨hb1,hb2⟩:=hb
    rw [←HN.out] at hb1
    have HT:=Lib.hid (jY (Sl.take HY.out (by rw [←HN.out];exact hl) (by rw [←HN.out];exact hcl) hcm HR.out s.size (by rw [←HN.out];exact hb1)))
    rw [hb2] at HT
    have hconv:=HT.out
    clear hb2
    go_wp2
    go_ret
    exact ⟨jA HH.out.symm,HB.out⟩
   ·have HH:Hid (mG l=dJ l (aF.drop (k+1))):=Lib.hid (HD.out.trans (wU l k hlt hb))
    generalize aF.getD k ak=s at*
    by_cases hb1:s.size≤n
    ·have hb2:dI (l.take s.size)≠s:=fun e=>hb (by unfold begins;rw [←HN.out];simp [hb1,e])
     have HT:=Lib.hid (jY (Sl.take HY.out (by rw [←HN.out];exact hl) (by rw [←HN.out];exact hcl) hcm HR.out s.size (by rw [←HN.out];exact hb1)))
     generalize dI (l.take s.size)=u at*
     have hq:(u.toList==s.toList)=false:=by rw [sV];simpa using hb2
     have hconv:=HT.out
     clear hb hb2
     go_wp2
     go_round
     case rel=>exact ⟨k+1,by omega,HH.out,by go_num⟩
     case measure=>simp [intOf];omega
    ·clear hb
     go_wp2
     go_round
     case rel=>exact ⟨k+1,by omega,HH.out,by go_num⟩
     case measure=>simp [intOf];omega
  ·obtain rfl:k=35:=by omega
   go_wp2
   go_ret
   exact ⟨jA (HD.out.symm),HB.out⟩
theorem wX (v:Value) (l:List Int) (w:World) (hs:Sl w v l) (hn:0<l.length):
  Calls Tryz.prog 105 #[v] w fun e w'=>e= .returned (.string (mG l))∧Below w.heap.size w w':=by
 obtain ⟨hy,hl,⟨rfl,a,cap,rfl⟩ | ⟨b,o,cap,rfl,hcl,hcm,hr⟩⟩:=hs
 ·simp at hn
 ·exact uj b o cap l w hl hcl hcm hy hr
end Go.Proofs.YtacfglopionkfaaGreatDoor
