import Derived.Test.YtacfglopionkfaaGreatDoorKDg
import Derived.Laws.IdiomStrings
import Derived.Laws.BytesArg
import Derived.Below
namespace Go.Proofs.YtacfglopionkfaaGreatDoor
open Go.RowKit
theorem Row.below {w w':World} {b o:Nat} {l:List Int} (h:Row w b o l) (hb:Below w.heap.size w w'):Row w' b o l:=fun i hi=>by
 have hc:=h i hi
 have hlt:b<w.heap.size:=by
  rcases Nat.lt_or_ge b w.heap.size with h' | h'
  ·exact h'
  ·simp [World.cell?,Array.getElem?_eq_none h'] at hc
 rw [hb.cell (p:=⟨b,o+i,none⟩) hlt]
 exact hc
theorem Sl.below {w w':World} {v:Value} {l:List Int} (h:Sl w v l) (hb:Below w.heap.size w w'):Sl w' v l:=by
 obtain ⟨hy,hl,⟨rfl,a,cap,rfl⟩ | ⟨b,o,cap,rfl,hcl,hcm,hr⟩⟩:=h
 ·exact ⟨hy,hl,Or.inl ⟨rfl,a,cap,rfl⟩⟩
 ·exact ⟨hy,hl,Or.inr ⟨b,o,cap,rfl,hcl,hcm,hr.below hb⟩⟩
theorem P9 {s t:ByteArray} (h:bT s=bT t):s=t:=by
 unfold bT at h
 have:s.data.toList=t.data.toList:=by
  have hinj:Function.Injective (fun c:UInt8=>(c.toNat:Int)):=fun a b hab=>by
   have hab':(a.toNat:Int)=b.toNat:=hab
   exact UInt8.toNat_inj.1 (by omega)
  exact (List.map_inj_right (fun a b hab=>hinj hab)).1 h
 obtain ⟨s⟩:=s
 obtain ⟨t⟩:=t
 simp at this
 rw [this]
def dI (l:List Int):ByteArray:=⟨(l.map fun n=>UInt8.ofNat n.toNat).toArray⟩
theorem xH {l:List Int} (h:nN l):bT (dI l)=l:=by
 unfold bT dI
 apply List.ext_getElem
 ·simp
 ·intro i h1 h2
  simp only [List.getElem_map]
  have:=h i
  rw [List.getD,List.getElem?_eq_getElem h2] at this
  simp only [Option.getD_some] at this
  simp
  omega
theorem Dw (s:ByteArray):dI (bT s)=s:=P9 (xH (Bc s))
theorem jP (l:List Int):(dI l).size=l.length:=by unfold dI;simp [ByteArray.size]
theorem jY {w:World} {v:Value} {l:List Int} (h:Sl w v l):(convert 22 9 v).run Tryz.prog w= .ok (.string (dI l)) w:=by
 obtain ⟨hy,hl,⟨rfl,a,cap,rfl⟩ | ⟨b,o,cap,rfl,hcl,hcm,hr⟩⟩:=h
 ·rw [run_convert_bytes_string w 22 9 5 _ 0 cap Tryz.underlying22 Tryz.underlying5 Tryz.underlying9]
  cases a<;>simp [Conv.bytesToString,loadCells]
  all_goals rfl
 ·have:=run_convert_bytes_back (P:=Tryz.prog) w 22 9 5 ⟨b,o,none⟩ cap (l.map fun n=>UInt8.ofNat n.toNat) Tryz.underlying22 Tryz.underlying5 Tryz.underlying9 (fun j hj=>by
   simp only [List.length_map] at hj
   rw [WideShapes.add_plain,hr j hj]
   have hb:=hy j
   rw [List.getD,List.getElem?_eq_getElem hj] at*
   simp only [Option.getD_some] at hb⊢
   simp
   omega)
  simpa [dI] using this
theorem mZ (w:World) (s:ByteArray) (hs:s.size≤9223372036854775807): ∃cap W1,(convert 9 22 (.string s)).run Tryz.prog w= .ok (.slice (some ⟨w.heap.size,0,none⟩) s.size cap) W1∧Sl W1 (.slice (some ⟨w.heap.size,0,none⟩) s.size cap) (bT s)∧Below w.heap.size w W1:=by
 refine ⟨_,_,run_bytes_of_string (P:=Tryz.prog) w 9 22 5 s Tryz.underlying9 Tryz.underlying22 Tryz.underlying5,?_,?_⟩
 ·have hm:=grownCap_le_maxLen w s.size 0 5 (by unfold maxLen;omega)
  unfold maxLen at hm
  refine ⟨Bc s,by rw [bC];exact hs,Or.inr ⟨w.heap.size,0,_,by rw [bC],by rw [bC];exact grownCap_ge _ _ _ _,by omega,fun i hi=>?_⟩⟩
  rw [bC] at hi
  rw [Nat.zero_add,Cc s i hi]
  show (w.drew.alloc _).cell? ⟨w.drew.heap.size,i,none⟩=_
  rw [World.cell?_alloc_mark]
  exact bytesRow_at s _ i (by simpa using hi)
 ·exact (Below.refl _ _).drew.alloc (Nat.le_refl _) _
end Go.Proofs.YtacfglopionkfaaGreatDoor
