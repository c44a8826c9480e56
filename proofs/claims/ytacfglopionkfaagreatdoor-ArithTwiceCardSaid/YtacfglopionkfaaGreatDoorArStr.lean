import Derived.Test.YtacfglopionkfaaGreatDoorArTokAt
import Derived.Test.YtacfglopionkfaaGreatDoorShelf
namespace Go.Proofs.YtacfglopionkfaaGreatDoor
open Go.RowKit
set_option maxHeartbeats 2000000 in
theorem kZ (s:ByteArray) (w:World) (hs:s.size≤9223372036854775807):
  Calls Tryz.prog 61 #[.string s] w fun e w'=>e= .returned (.bool (fZ s))∧w=w':=by
 by_cases h0:s=⟨#[60,61]⟩
 ·subst h0
  go_enter Tryz.func61,Tryz.ntmps61
  go_wp2
  go_ret
  exact ⟨bK (by decide),rfl⟩
 by_cases h1:s=⟨#[62,61]⟩
 ·subst h1
  go_enter Tryz.func61,Tryz.ntmps61
  go_wp2
  go_ret
  exact ⟨bK (by decide),rfl⟩
 by_cases h2:s=⟨#[61,61]⟩
 ·subst h2
  go_enter Tryz.func61,Tryz.ntmps61
  go_wp2
  go_ret
  exact ⟨bK (by decide),rfl⟩
 by_cases h3:s=⟨#[33,61]⟩
 ·subst h3
  go_enter Tryz.func61,Tryz.ntmps61
  go_wp2
  go_ret
  exact ⟨bK (by decide),rfl⟩
 have HA:Hid (fZ s=Lib.hasSuffix s.data.toList [61]):=Lib.hid (by unfold fZ;simp [h0,h1,h2,h3])
 have e0:=aX h0
 have e1:=aX h1
 have e2:=aX h2
 have e3:=aX h3
 have HF:=Lib.hid (Tryz.strings_HasSuffix s ⟨#[61]⟩ w hs)
 clear h0 h1 h2 h3
 go_enter Tryz.func61,Tryz.ntmps61
 go_wp2_with fail
 refine HF.out.mono ?_
 rintro e w' ⟨rfl,rfl⟩
 go_wp2
 go_ret
 exact ⟨bK HA.out.symm,rfl⟩
def RowsIn (wo:World) (cs:Array Value):Prop:= ∀k,k<10→ ∃b,cs[k]? =some (.slice (some ⟨b,0,none⟩) (bG.getD k []).length (bG.getD k []).length)∧ ∀j,j<(bG.getD k []).length→wo.cell? ⟨b,0+j,none⟩=some (.string ((bG.getD k []).getD j ByteArray.empty))
theorem gJ {w:World} {b:Nat} {zs:List ByteArray} {vs:Array Value} {t:TypeId} (h:w.heap[b]? =some (.cells vs t (0,0))) (hv:vs=(zs.map Value.string).toArray) (j:Nat) (hj:j<zs.length):w.cell? ⟨b,0+j,none⟩=some (.string (zs.getD j ByteArray.empty)):=by
 subst hv
 simp only [World.cell?,h]
 simp [List.getElem?_eq_getElem hj]
theorem xZ (zs:List ByteArray) (x:ByteArray):Lib.containsS (zs.take zs.length) x=zs.any (fun y=>decide (y=x)):=by
 rw [List.take_length,Bool.eq_iff_iff,Lib.containsS_iff]
 simp
theorem CO (s:ByteArray) (k:Nat) (h:k<10) (hb:(bG.getD k []).any (fun y=>decide (y=s))=true):rowFrom s (bG.drop k) k=k+1:=by
 have h':k<bG.length:=h
 have e:bG.getD k []=bG[k]:=by rw [List.getD,List.getElem?_eq_getElem h'];rfl
 rw [e] at hb
 rw [List.drop_eq_getElem_cons h']
 unfold rowFrom
 rw [if_pos hb]
theorem zX (s:ByteArray) (k:Nat) (h:k<10) (hb:(bG.getD k []).any (fun y=>decide (y=s))=false):rowFrom s (bG.drop k) k=rowFrom s (bG.drop (k+1)) (k+1):=by
 have h':k<bG.length:=h
 have e:bG.getD k []=bG[k]:=by rw [List.getD,List.getElem?_eq_getElem h'];rfl
 rw [e] at hb
 rw [List.drop_eq_getElem_cons h']
 conv=>lhs;unfold rowFrom
 rw [if_neg (by rw [hb];simp)]
set_option maxRecDepth 100000 in
set_option maxHeartbeats 4000000 in
theorem zV (s:ByteArray) (w:World):
  Calls Tryz.prog 173 #[.string s] w fun e w'=>e= .returned (.int .i64 (dO s))∧Below w.heap.size w w':=by
 go_enter Tryz.func173,Tryz.ntmps173
 go_wp2
 obtain ⟨cs,hcs⟩: ∃cs:Array Value,cs= #[.slice (some ⟨w.heap.size,0,none⟩) 1 1,.slice (some ⟨w.heap.size+1,0,none⟩) 1 1,.slice (some ⟨w.heap.size+1+1,0,none⟩) 1 1,.slice (some ⟨w.heap.size+1+1+1,0,none⟩) 1 1,.slice (some ⟨w.heap.size+1+1+1+1,0,none⟩) 1 1,.slice (some ⟨w.heap.size+1+1+1+1+1,0,none⟩) 2 2,.slice (some ⟨w.heap.size+1+1+1+1+1+1,0,none⟩) 4 4,.slice (some ⟨w.heap.size+1+1+1+1+1+1+1,0,none⟩) 2 2,.slice (some ⟨w.heap.size+1+1+1+1+1+1+1+1,0,none⟩) 2 2,.slice (some ⟨w.heap.size+1+1+1+1+1+1+1+1+1,0,none⟩) 3 3]:=⟨_,rfl⟩
 rw [←hcs]
 obtain ⟨wo,hwo⟩: ∃wo:World,wo=(((((((((((w.alloc (.cells #[.string ⟨#[124,124]⟩] 9)).alloc (.cells #[.string ⟨#[38,38]⟩] 9)).alloc (.cells #[.string ⟨#[124]⟩] 9)).alloc (.cells #[.string ⟨#[94]⟩] 9)).alloc (.cells #[.string ⟨#[38]⟩] 9)).alloc (.cells #[.string ⟨#[61,61]⟩,.string ⟨#[33,61]⟩] 9)).alloc (.cells #[.string ⟨#[60]⟩,.string ⟨#[60,61]⟩,.string ⟨#[62]⟩,.string ⟨#[62,61]⟩] 9)).alloc (.cells #[.string ⟨#[60,60]⟩,.string ⟨#[62,62]⟩] 9)).alloc (.cells #[.string ⟨#[43]⟩,.string ⟨#[45]⟩] 9)).alloc (.cells #[.string ⟨#[42]⟩,.string ⟨#[47]⟩,.string ⟨#[37]⟩] 9))).alloc (.cells cs 246):=⟨_,rfl⟩
 rw [←hwo]
 have HB:Hid (Below w.heap.size w wo):=Lib.hid (by
  rw [hwo]
  exact (((((((((((Below.refl w.heap.size w).alloc (by simp) _).alloc (by first | (simp;done) | (simp;omega)) _).alloc (by first | (simp;done) | (simp;omega)) _).alloc (by first | (simp;done) | (simp;omega)) _).alloc (by first | (simp;done) | (simp;omega)) _).alloc (by first | (simp;done) | (simp;omega)) _).alloc (by first | (simp;done) | (simp;omega)) _).alloc (by first | (simp;done) | (simp;omega)) _).alloc (by first | (simp;done) | (simp;omega)) _).alloc (by first | (simp;done) | (simp;omega)) _).alloc (by first | (simp;done) | (simp;omega)) _)
 have HR:Hid (RowsIn wo cs):=Lib.hid (by
  rw [hwo,hcs]
  intro k hk
  match k,hk with
  | 0,_=>
   refine ⟨w.heap.size,rfl,gJ (t:=9) (vs:= #[.string ⟨#[124,124]⟩]) ?_ rfl⟩
   show ((((((((((((w.heap.push _).push _).push _).push _).push _).push _).push _).push _).push _).push _).push _))[w.heap.size]? =_
   rw [Array.getElem?_push,if_neg (by first | (simp;done) | (simp;omega))]
   rw [Array.getElem?_push,if_neg (by first | (simp;done) | (simp;omega))]
   rw [Array.getElem?_push,if_neg (by first | (simp;done) | (simp;omega))]
   rw [Array.getElem?_push,if_neg (by first | (simp;done) | (simp;omega))]
   rw [Array.getElem?_push,if_neg (by first | (simp;done) | (simp;omega))]
   rw [Array.getElem?_push,if_neg (by first | (simp;done) | (simp;omega))]
   rw [Array.getElem?_push,if_neg (by first | (simp;done) | (simp;omega))]
   rw [Array.getElem?_push,if_neg (by first | (simp;done) | (simp;omega))]
   rw [Array.getElem?_push,if_neg (by first | (simp;done) | (simp;omega))]
   rw [Array.getElem?_push,if_neg (by first | (simp;done) | (simp;omega))]
   rw [Array.getElem?_push,if_pos (by simp)]
  | 1,_=>
   refine ⟨w.heap.size+1,rfl,gJ (t:=9) (vs:= #[.string ⟨#[38,38]⟩]) ?_ rfl⟩
   show ((((((((((((w.heap.push _).push _).push _).push _).push _).push _).push _).push _).push _).push _).push _))[w.heap.size+1]? =_
   rw [Array.getElem?_push,if_neg (by first | (simp;done) | (simp;omega))]
   rw [Array.getElem?_push,if_neg (by first | (simp;done) | (simp;omega))]
   rw [Array.getElem?_push,if_neg (by first | (simp;done) | (simp;omega))]
   rw [Array.getElem?_push,if_neg (by first | (simp;done) | (simp;omega))]
   rw [Array.getElem?_push,if_neg (by first | (simp;done) | (simp;omega))]
   rw [Array.getElem?_push,if_neg (by first | (simp;done) | (simp;omega))]
   rw [Array.getElem?_push,if_neg (by first | (simp;done) | (simp;omega))]
   rw [Array.getElem?_push,if_neg (by first | (simp;done) | (simp;omega))]
   rw [Array.getElem?_push,if_neg (by first | (simp;done) | (simp;omega))]
   rw [Array.getElem?_push,if_pos (by simp)]
  | 2,_=>
   refine ⟨w.heap.size+1+1,rfl,gJ (t:=9) (vs:= #[.string ⟨#[124]⟩]) ?_ rfl⟩
   show ((((((((((((w.heap.push _).push _).push _).push _).push _).push _).push _).push _).push _).push _).push _))[w.heap.size+1+1]? =_
   rw [Array.getElem?_push,if_neg (by first | (simp;done) | (simp;omega))]
   rw [Array.getElem?_push,if_neg (by first | (simp;done) | (simp;omega))]
   rw [Array.getElem?_push,if_neg (by first | (simp;done) | (simp;omega))]
   rw [Array.getElem?_push,if_neg (by first | (simp;done) | (simp;omega))]
   rw [Array.getElem?_push,if_neg (by first | (simp;done) | (simp;omega))]
   rw [Array.getElem?_push,if_neg (by first | (simp;done) | (simp;omega))]
   rw [Array.getElem?_push,if_neg (by first | (simp;done) | (simp;omega))]
   rw [Array.getElem?_push,if_neg (by first | (simp;done) | (simp;omega))]
   rw [Array.getElem?_push,if_pos (by simp)]
  | 3,_=>
   refine ⟨w.heap.size+1+1+1,rfl,gJ (t:=9) (vs:= #[.string ⟨#[94]⟩]) ?_ rfl⟩
   show ((((((((((((w.heap.push _).push _).push _).push _).push _).push _).push _).push _).push _).push _).push _))[w.heap.size+1+1+1]? =_
   rw [Array.getElem?_push,if_neg (by first | (simp;done) | (simp;omega))]
   rw [Array.getElem?_push,if_neg (by first | (simp;done) | (simp;omega))]
   rw [Array.getElem?_push,if_neg (by first | (simp;done) | (simp;omega))]
   rw [Array.getElem?_push,if_neg (by first | (simp;done) | (simp;omega))]
   rw [Array.getElem?_push,if_neg (by first | (simp;done) | (simp;omega))]
   rw [Array.getElem?_push,if_neg (by first | (simp;done) | (simp;omega))]
   rw [Array.getElem?_push,if_neg (by first | (simp;done) | (simp;omega))]
   rw [Array.getElem?_push,if_pos (by simp)]
  | 4,_=>
   refine ⟨w.heap.size+1+1+1+1,rfl,gJ (t:=9) (vs:= #[.string ⟨#[38]⟩]) ?_ rfl⟩
   show ((((((((((((w.heap.push _).push _).push _).push _).push _).push _).push _).push _).push _).push _).push _))[w.heap.size+1+1+1+1]? =_
   rw [Array.getElem?_push,if_neg (by first | (simp;done) | (simp;omega))]
   rw [Array.getElem?_push,if_neg (by first | (simp;done) | (simp;omega))]
   rw [Array.getElem?_push,if_neg (by first | (simp;done) | (simp;omega))]
   rw [Array.getElem?_push,if_neg (by first | (simp;done) | (simp;omega))]
   rw [Array.getElem?_push,if_neg (by first | (simp;done) | (simp;omega))]
   rw [Array.getElem?_push,if_neg (by first | (simp;done) | (simp;omega))]
   rw [Array.getElem?_push,if_pos (by simp)]
  | 5,_=>
   refine ⟨w.heap.size+1+1+1+1+1,rfl,gJ (t:=9) (vs:= #[.string ⟨#[61,61]⟩,.string ⟨#[33,61]⟩]) ?_ rfl⟩
   show ((((((((((((w.heap.push _).push _).push _).push _).push _).push _).push _).push _).push _).push _).push _))[w.heap.size+1+1+1+1+1]? =_
   rw [Array.getElem?_push,if_neg (by first | (simp;done) | (simp;omega))]
   rw [Array.getElem?_push,if_neg (by first | (simp;done) | (simp;omega))]
   rw [Array.getElem?_push,if_neg (by first | (simp;done) | (simp;omega))]
   rw [Array.getElem?_push,if_neg (by first | (simp;done) | (simp;omega))]
   rw [Array.getElem?_push,if_neg (by first | (simp;done) | (simp;omega))]
   rw [Array.getElem?_push,if_pos (by simp)]
  | 6,_=>
   refine ⟨w.heap.size+1+1+1+1+1+1,rfl,gJ (t:=9) (vs:= #[.string ⟨#[60]⟩,.string ⟨#[60,61]⟩,.string ⟨#[62]⟩,.string ⟨#[62,61]⟩]) ?_ rfl⟩
   show ((((((((((((w.heap.push _).push _).push _).push _).push _).push _).push _).push _).push _).push _).push _))[w.heap.size+1+1+1+1+1+1]? =_
   rw [Array.getElem?_push,if_neg (by first | (simp;done) | (simp;omega))]
   rw [Array.getElem?_push,if_neg (by first | (simp;done) | (simp;omega))]
   rw [Array.getElem?_push,if_neg (by first | (simp;done) | (simp;omega))]
   rw [Array.getElem?_push,if_neg (by first | (simp;done) | (simp;omega))]
   rw [Array.getElem?_push,if_pos (by simp)]
  | 7,_=>
   refine ⟨w.heap.size+1+1+1+1+1+1+1,rfl,gJ (t:=9) (vs:= #[.string ⟨#[60,60]⟩,.string ⟨#[62,62]⟩]) ?_ rfl⟩
   show ((((((((((((w.heap.push _).push _).push _).push _).push _).push _).push _).push _).push _).push _).push _))[w.heap.size+1+1+1+1+1+1+1]? =_
   rw [Array.getElem?_push,if_neg (by first | (simp;done) | (simp;omega))]
   rw [Array.getElem?_push,if_neg (by first | (simp;done) | (simp;omega))]
   rw [Array.getElem?_push,if_neg (by first | (simp;done) | (simp;omega))]
   rw [Array.getElem?_push,if_pos (by simp)]
  | 8,_=>
   refine ⟨w.heap.size+1+1+1+1+1+1+1+1,rfl,gJ (t:=9) (vs:= #[.string ⟨#[43]⟩,.string ⟨#[45]⟩]) ?_ rfl⟩
   show ((((((((((((w.heap.push _).push _).push _).push _).push _).push _).push _).push _).push _).push _).push _))[w.heap.size+1+1+1+1+1+1+1+1]? =_
   rw [Array.getElem?_push,if_neg (by first | (simp;done) | (simp;omega))]
   rw [Array.getElem?_push,if_neg (by first | (simp;done) | (simp;omega))]
   rw [Array.getElem?_push,if_pos (by simp)]
  | 9,_=>
   refine ⟨w.heap.size+1+1+1+1+1+1+1+1+1,rfl,gJ (t:=9) (vs:= #[.string ⟨#[42]⟩,.string ⟨#[47]⟩,.string ⟨#[37]⟩]) ?_ rfl⟩
   show ((((((((((((w.heap.push _).push _).push _).push _).push _).push _).push _).push _).push _).push _).push _))[w.heap.size+1+1+1+1+1+1+1+1+1]? =_
   rw [Array.getElem?_push,if_neg (by first | (simp;done) | (simp;omega))]
   rw [Array.getElem?_push,if_pos (by simp)]
  )
 clear hwo hcs
 go_loop [4,5,18] (fun _ _ i=> ∃k:Nat,k≤10∧dO s=rowFrom s (bG.drop k) k∧i= .int .i64 k) (fun _ _ i=>10 - (intOf i).toNat)
 case atStart=>exact ⟨0,by omega,rfl,rfl⟩
 case round=>
  obtain ⟨k,hk,hd,rfl⟩:=hrel
  have HD:=Lib.hid hd
  clear hd
  by_cases hlt:k<10
  ·obtain ⟨b,hcs,hcl⟩:=HR.out k hlt
   have hat:=qw (P:=Tryz.prog) (w:=wo) Tryz.underlying246 (by kernel_rfl) (by kernel_rfl) hlt hcs
   have WM:=Lib.hid (Tryz.slices_Contains_string b 0 (bG.getD k []).length (bG.getD k []).length (bG.getD k []) s wo (Nat.le_refl _) (by
    have: ∀r∈bG,r.length≤4:=by decide
    have h':k<bG.length:=hlt
    have e:bG.getD k []=bG[k]:=by rw [List.getD,List.getElem?_eq_getElem h'];rfl
    rw [e]
    have:=this _ (List.getElem_mem h')
    omega) hcl)
   rw [xZ] at WM
   obtain ⟨x,hx⟩: ∃x,x=(bG.getD k []).any (fun y=>decide (y=s)):=⟨_,rfl⟩
   rw [←hx] at WM
   have HH:Hid (if x=true then dO s=k+1 else dO s=rowFrom s (bG.drop (k+1)) (k+1)):=Lib.hid (by
    cases x with
    | true=>exact HD.out.trans (CO s k hlt hx.symm)
    | false=>exact HD.out.trans (zX s k hlt hx.symm))
   clear hx hcl hcs
   generalize (bG.getD k []).length=n at*
   cases x with
   | true=>
    go_wp2_with fail
    refine WM.out.mono ?_
    rintro e w1 ⟨rfl,rfl⟩
    go_wp2
    go_ret
    have hh:dO s=k+1:=by simpa using HH.out
    exact ⟨je (by rw [hh];simp),HB.out⟩
   | false=>
    go_wp2_with fail
    refine WM.out.mono ?_
    rintro e w1 ⟨rfl,rfl⟩
    go_wp2
    go_round
    case rel=>exact ⟨k+1,by omega,(by simpa using HH.out),by go_num⟩
    case measure=>simp [intOf];omega
  ·obtain rfl:k=10:=by omega
   go_wp2
   go_ret
   exact ⟨je (by rw [HD.out];rfl),HB.out⟩
end Go.Proofs.YtacfglopionkfaaGreatDoor
