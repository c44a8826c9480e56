import Derived.WalkKit
import Derived.Test.YtacfglopionkfaaGreatDoorProg
import Derived.Outline
import Derived.Lib.Hide
import Derived.BigQuiet
import Derived.BigGuardPart
namespace Go.Proofs.YtacfglopionkfaaGreatDoor
def oG (c:Int):Int:=if 48≤c∧c≤57 then c - 48 else if 97≤c∧c≤102 then c - 87 else if 65≤c∧c≤70 then c - 55 else 16
theorem Di (c:Int):0≤oG c∧oG c≤16:=by unfold oG;split;omega;split;omega;split<;>omega
def nN (l:List Int):Prop:= ∀i,0≤l.getD i 0∧l.getD i 0≤255
def val (b:Int) (l:List Int):Int:=l.foldl (fun v c=>v*b+oG c) 0
def mM (b:Int) (l:List Int) (k:Nat):Int:=val b (l.take k)
theorem kG (b:Int) (l:List Int):mM b l 0=0:=rfl
theorem uX (b:Int) (l:List Int) (k:Nat) (h:k<l.length):mM b l (k+1)=mM b l k*b+oG (l.getD k 0):=by
 unfold mM val
 rw [List.take_succ_eq_append_getElem h,List.foldl_append]
 simp [List.getD,List.getElem?_eq_getElem h]
theorem lZ (b:Int) (hb:0≤b) (l:List Int) (k:Nat) (h:k≤l.length):0≤mM b l k:=by
 induction k with
 | zero=>simp [kG]
 | succ k ih=>
  rw [uX _ _ _ (by omega)]
  have:=Int.mul_nonneg (ih (by omega)) hb
  have:=(Di (l.getD k 0)).1
  omega
def pre (p:Int→Bool) (l:List Int):Nat:=(l.takeWhile p).length
theorem vU (p:Int→Bool) (l:List Int):pre p l≤l.length:=(List.takeWhile_sublist p).length_le
theorem uZ (p:Int→Bool): ∀(l:List Int) (k:Nat),k≤l.length→(∀j,j<k→p (l.getD j 0)=true)→(k<l.length→p (l.getD k 0)=false)→pre p l=k
 | [],k,h,_,_=>by simp at h;subst h;rfl
 | c::l,0,_,_,h=>by
  have:=h (by simp)
  simp only [List.getD_cons_zero] at this
  simp [pre,this]
 | c::l,k+1,hk,h1,h2=>by
  have hc:=h1 0 (by omega)
  simp only [List.getD_cons_zero] at hc
  have:=uZ p l k (by simpa using hk) (fun j hj=>by simpa using h1 (j+1) (by omega)) (fun hlt=>by simpa using h2 (by simpa using hlt))
  unfold pre at*
  simp [hc,this]
def cut (m v:Int):Int:=if v≤m then v else m
def qZ (m v:Int):Bool:=decide (m<v)
theorem Kr (m v:Int) (h:0≤v) (hm:0≤m):0≤cut m v∧cut m v≤m:=by unfold cut;split<;>omega
theorem J8 (m d b v:Int) (hb:1≤b):(m - d) / b<v↔m - d<v*b:=by
 constructor
 ·intro h
  have h1:=Int.mul_ediv_add_emod (m - d) b
  have h2:=Int.emod_lt_of_pos (m - d) (show 0<b by omega)
  have h3:b*((m - d) / b+1)≤b*v:=Int.mul_le_mul_of_nonneg_left (by omega) (by omega)
  rw [Int.mul_add,Int.mul_one] at h3
  rw [Int.mul_comm v b]
  omega
 ·intro h
  by_cases hc:(m - d) / b<v
  ·exact hc
  ·have h1:=Int.mul_ediv_add_emod (m - d) b
   have h2:=Int.emod_nonneg (m - d) (show b≠0 by omega)
   have h3:b*v≤b*((m - d) / b):=Int.mul_le_mul_of_nonneg_left (by omega) (by omega)
   rw [Int.mul_comm v b] at h
   omega
theorem AB (m d b v:Int) (hb:2≤b) (_hd:0≤d) (hd2:d<b) (hv:0≤v) (_hm:16≤m) (hb2:b≤16) (h:(m - d) / b<cut m v):cut m (v*b+d)=m∧qZ m (v*b+d)=true:=by
 have h':=(J8 m d b _ (by omega)).1 h
 have hvb:m<v*b+d:=by
  unfold cut at h'
  split at h'
  ·omega
  ·have:v*1≤v*b:=Int.mul_le_mul_of_nonneg_left (by omega) hv
   omega
 unfold cut qZ
 rw [if_neg (by omega)]
 exact ⟨rfl,by simpa using hvb⟩
theorem I5 (m d b v:Int) (hb:2≤b) (_hd:0≤d) (hd2:d<b) (_hv:0≤v) (hm:16≤m) (hb2:b≤16) (h: ¬(m - d) / b<cut m v):
  v≤m∧cut m v=v∧v*b+d≤m∧cut m (v*b+d)=v*b+d∧qZ m (v*b+d)=false∧qZ m v=false:=by
 have h':cut m v*b≤m - d:=by have:=(J8 m d b (cut m v) (by omega));omega
 have hvm:v≤m:=by
  by_cases hc:v≤m
  ·exact hc
  ·unfold cut at h'
   rw [if_neg hc] at h'
   have:m*2≤m*b:=Int.mul_le_mul_of_nonneg_left (by omega) (by omega)
   omega
 have hcut:cut m v=v:=by unfold cut;rw [if_pos hvm]
 rw [hcut] at h'
 refine ⟨hvm,hcut,by omega,by unfold cut;rw [if_pos (by omega)],?_,?_⟩
 ·unfold qZ;simp;omega
 ·unfold qZ;simp;omega
def um (b:Int) (c:Int):Bool:=decide (oG c<b)
def rN (b:Int) (l:List Int):Nat:=pre (um b) l
def rV (b m:Int) (l:List Int):Int:=cut m (mM b l (rN b l))
def rO (b m:Int) (l:List Int):Bool:=qZ m (mM b l (rN b l))
def jh (c:Int):Bool:=decide ((97≤c∧c≤122)∨(65≤c∧c≤90)∨c=95)
def jd (c:Int):Bool:=decide (48≤c∧c≤57)
end Go.Proofs.YtacfglopionkfaaGreatDoor
namespace Go.Proofs.YtacfglopionkfaaGreatDoor
open Go.RowKit
theorem je {k:IntKind} {a b:Int} (h:a=b):Ending.returned (.int k a)= .returned (.int k b):=by rw [h]
theorem bK {a b:Bool} (h:a=b):Ending.returned (.bool a)= .returned (.bool b):=by rw [h]
set_option maxHeartbeats 2000000 in
theorem pK (c:Int) (w:World) (h0:0≤c) (h1:c≤255):
  Calls Tryz.prog 169 #[.int .u8 c] w fun e w'=>e= .returned (.int .u64 (oG c))∧w=w':=by
 rcases (by omega:c<48∨(48≤c∧c≤57)∨(57<c∧c<65)∨(65≤c∧c≤70)∨(70<c∧c<97)∨(97≤c∧c≤102)∨102<c) with h | h | h | h | h | h | h
 all_goals
  go_enter Tryz.func169,Tryz.ntmps169
  go_wp2
  all_goals
   go_ret
   exact ⟨je (by unfold oG;(repeat' split)<;>omega),rfl⟩
set_option maxHeartbeats 2000000 in
theorem wP (b:Int) (w:World):
  Calls Tryz.prog 170 #[.int .i64 b] w fun e w'=>e= .returned (.bool (decide (2≤b∧b≤16)))∧w=w':=by
 rcases (by omega:b<2∨(2≤b∧b≤16)∨16<b) with h | h | h
 all_goals
  have hd: ∃x,x=decide (2≤b∧b≤16):=⟨_,rfl⟩
  obtain ⟨x,hx⟩:=hd
  rw [←hx]
  have HX:=Lib.hid hx
  clear hx
  go_enter Tryz.func170,Tryz.ntmps170
  go_wp2
  all_goals
   go_ret
   exact ⟨bK (by rw [HX.out];simp;omega),rfl⟩
end Go.Proofs.YtacfglopionkfaaGreatDoor
