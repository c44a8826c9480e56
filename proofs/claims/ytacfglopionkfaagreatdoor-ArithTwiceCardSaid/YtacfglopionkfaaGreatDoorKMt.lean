import Derived.Test.YtacfglopionkfaaGreatDoorScConv
import Derived.Test.YtacfglopionkfaaGreatDoorKDg
import Derived.Lib.Strings
import Derived.WalkLawsBesides
import Derived.WalkSpells
namespace Go.Proofs.YtacfglopionkfaaGreatDoor
def bM (c:Int):Bool:=c==32 || c==9 || c==10
def fC (l:List Int):Nat:=iG (nameB l) l.length
def ak:ByteArray:=⟨#[]⟩
def mO:ByteArray:=⟨#[110,117,109]⟩
def jk:ByteArray:=⟨#[110,97,109,101]⟩
def iE:ByteArray:=⟨#[63]⟩
def o8:ByteArray:=⟨#[58]⟩
def jy:ByteArray:=⟨#[40]⟩
def jw:ByteArray:=⟨#[41]⟩
def aF:List ByteArray:=[⟨#[60,60,61]⟩,⟨#[62,62,61]⟩,⟨#[43,61]⟩,⟨#[45,61]⟩,⟨#[42,61]⟩,⟨#[47,61]⟩,⟨#[37,61]⟩,⟨#[38,61]⟩,⟨#[94,61]⟩,⟨#[124,61]⟩,⟨#[60,60]⟩,⟨#[62,62]⟩,⟨#[60,61]⟩,⟨#[62,61]⟩,⟨#[61,61]⟩,⟨#[33,61]⟩,⟨#[38,38]⟩,⟨#[124,124]⟩,⟨#[40]⟩,⟨#[41]⟩,⟨#[126]⟩,⟨#[33]⟩,⟨#[43]⟩,⟨#[45]⟩,⟨#[42]⟩,⟨#[47]⟩,⟨#[37]⟩,⟨#[60]⟩,⟨#[62]⟩,⟨#[38]⟩,⟨#[94]⟩,⟨#[124]⟩,⟨#[63]⟩,⟨#[58]⟩,⟨#[61]⟩]
def begins (l:List Int) (s:ByteArray):Bool:=decide (s.size≤l.length) && decide (dI (l.take s.size)=s)
def dJ (l:List Int):List ByteArray→ByteArray
 | []=>ak
 | s::r=>if begins l s=true then s else dJ l r
def mG (l:List Int):ByteArray:=dJ l aF
structure Tk where
 kind:Int
 start:Nat
 stop:Nat
 text:ByteArray
 num:Int
 over:Bool
def gY (rest:List Int) (p:Nat):Tk:=
 if rest.length=0 then ⟨0,p,p,ak,0,false⟩
 else if 0<fC rest then ⟨3,p,p+fC rest,dI (rest.take (fC rest)),0,false⟩
 else if 0<cN rest then ⟨2,p,p+cN rest,ak,cV rest,cO rest⟩
 else if¬mG rest=ak then ⟨4,p,p+(mG rest).size,mG rest,0,false⟩
 else ⟨1,p,p,ak,0,false⟩
def ay (l:List Int) (p:Nat):Nat:=p+pre bM (l.drop p)
def tok (l:List Int) (p:Nat):Tk:=gY (l.drop (ay l p)) (ay l p)
def fZ (s:ByteArray):Bool:= !(decide (s=⟨#[60,61]⟩) || decide (s=⟨#[62,61]⟩) || decide (s=⟨#[61,61]⟩) || decide (s=⟨#[33,61]⟩)) && Lib.hasSuffix s.data.toList [61]
def bG:List (List ByteArray):=[[⟨#[124,124]⟩],[⟨#[38,38]⟩],[⟨#[124]⟩],[⟨#[94]⟩],[⟨#[38]⟩],[⟨#[61,61]⟩,⟨#[33,61]⟩],[⟨#[60]⟩,⟨#[60,61]⟩,⟨#[62]⟩,⟨#[62,61]⟩],[⟨#[60,60]⟩,⟨#[62,62]⟩],[⟨#[43]⟩,⟨#[45]⟩],[⟨#[42]⟩,⟨#[47]⟩,⟨#[37]⟩]]
def rowFrom (s:ByteArray):List (List ByteArray)→Nat→Nat
 | [],_=>0
 | r::rs,k=>if r.any (fun x=>decide (x=s))=true then k+1 else rowFrom s rs (k+1)
def dO (s:ByteArray):Nat:=rowFrom s bG 0
def jo (s:ByteArray):ByteArray:=if s=⟨#[43]⟩∨s=⟨#[45]⟩ then ⟨#[117]⟩++s else if s=⟨#[33]⟩∨s=⟨#[126]⟩ then s else ak
def gG (l:List Int) (p:Nat):Bool:=decide (p<l.length) && (jd (l.getD p 0) || decide (0<fC (l.drop p)))
inductive Tr
 | num (n:Int) (p:Nat)
 | name (s:ByteArray) (p:Nat)
 | un (op:ByteArray) (p:Nat) (a:Tr)
 | bin (op:ByteArray) (p:Nat) (a b:Tr)
 | cond (op:ByteArray) (p:Nat) (a b c:Tr)
 | eF (op s:ByteArray) (p q:Nat) (a:Tr)
def Tr.op:Tr→ByteArray
 | .num _ _=>mO
 | .name _ _=>jk
 | .un op _ _=>op
 | .bin op _ _ _=>op
 | .cond op _ _ _ _=>op
 | .eF op _ _ _ _=>op
def Tr.val:Tr→Int
 | .num n _=>n
 | _=>0
def Tr.nm:Tr→ByteArray
 | .name s _=>s
 | .eF _ s _ _ _=>s
 | _=>ak
def Tr.pos:Tr→Nat
 | .num _ p=>p
 | .name _ p=>p
 | .un _ p _=>p
 | .bin _ p _ _=>p
 | .cond _ p _ _ _=>p
 | .eF _ _ p _ _=>p
def Tr.aG:Tr→Nat
 | .eF _ _ _ q _=>q
 | _=>0
inductive Md
 | expr
 | cond
 | bin (least:Nat)
 | loop (least:Nat) (left:Tr)
 | iR
inductive Rs
 | ok (t:Tr) (next:Tk)
 | bad (code:Nat) (pos:Nat)
def Tk.code (t:Tk):Nat:=if t.over then 6 else 3
def refuse (t:Tk):Rs:= .bad t.code t.start
def rd (l:List Int):Nat→Md→Tk→Option Rs
 | 0,_,_=>none
 | n+1,.expr,t=>
  if t.kind=3∧fZ (tok l t.stop).text=true then
   match rd l n .expr (tok l (tok l t.stop).stop) with
   | some (.ok e t')=>some (.ok (.eF (tok l t.stop).text t.text t.start (tok l t.stop).start e) t')
   | r=>r
  else rd l n .cond t
 | n +1,.cond,t=>
  match rd l n (.bin 1) t with
  | some (.ok a t1)=>
   if t1.text=iE then
    match rd l n .expr (tok l t1.stop) with
    | some (.ok y t2)=>
     if t2.text=o8 then
      match rd l n .cond (tok l t2.stop) with
      | some (.ok z t3)=>some (.ok (.cond t1.text t1.start a y z) t3)
      | r=>r
     else some (refuse t2)
    | r=>r
   else some (.ok a t1)
  | r=>r
 | n+1,.bin least,t=>
  match rd l n .iR t with
  | some (.ok a t1)=>rd l n (.loop least a) t1
  | r=>r
 | n+1,.loop least left,t=>
  if least≤dO t.text then
   match rd l n (.bin (dO t.text+1)) (tok l t.stop) with
   | some (.ok b t2)=>rd l n (.loop least (.bin t.text t.start left b)) t2
   | r=>r
  else some (.ok left t)
 | n+1,.iR,t=>
  if t.kind=2 then
   if t.over then some (refuse t) else if gG l t.stop then some (.bad 3 t.stop) else some (.ok (.num t.num t.start) (tok l t.stop))
  else if t.kind=3 then some (.ok (.name t.text t.start) (tok l t.stop))
  else if¬jo t.text=ak then
   match rd l n .iR (tok l t.stop) with
   | some (.ok a t1)=>some (.ok (.un (jo t.text) t.start a) t1)
   | r=>r
  else if t.text=jy then
   match rd l n .expr (tok l t.stop) with
   | some (.ok e t1)=>if t1.text=jw then some (.ok e (tok l t1.stop)) else some (refuse t1)
   | r=>r
  else some (refuse t)
end Go.Proofs.YtacfglopionkfaaGreatDoor
namespace Go.Proofs.YtacfglopionkfaaGreatDoor
open Go.RowKit
set_option maxHeartbeats 2000000 in
theorem CX (c:Int) (w:World):
  Calls Tryz.prog 103 #[.int .u8 c] w fun e w'=>e= .returned (.bool (bM c))∧w=w':=by
 have hd: ∃x,x=bM c:=⟨_,rfl⟩
 obtain ⟨x,hx⟩:=hd
 rw [←hx]
 have HX:=Lib.hid hx
 clear hx
 rcases (by omega:c=32∨c=9∨c=10∨(c≠32∧c≠9∧c≠10)) with rfl | rfl | rfl | ⟨h1,h2,h3⟩
 ·go_enter Tryz.func103,Tryz.ntmps103
  go_wp2
  go_ret
  exact ⟨bK (by rw [HX.out];rfl),rfl⟩
 ·go_enter Tryz.func103,Tryz.ntmps103
  go_wp2
  go_ret
  exact ⟨bK (by rw [HX.out];rfl),rfl⟩
 ·go_enter Tryz.func103,Tryz.ntmps103
  go_wp2
  go_ret
  exact ⟨bK (by rw [HX.out];rfl),rfl⟩
 ·have e1:(c==32)=false:=by simpa using h1
  have e2:(c==9)=false:=by simpa using h2
  have e3:(c==10)=false:=by simpa using h3
  go_enter Tryz.func103,Tryz.ntmps103
  go_wp2
  go_ret
  exact ⟨bK (by rw [HX.out];unfold bM;rw [e1,e2,e3];rfl),rfl⟩
theorem sV (s t:ByteArray):(s.toList==t.toList)=decide (s=t):=by
 rw [Bool.eq_iff_iff]
 simp only [beq_iff_eq,decide_eq_true_eq,ByteArray.toList_eq]
 exact ⟨fun h=>WideShapes.bytes_inj h,fun h=>by rw [h]⟩
theorem kE (s:ByteArray) (l:List UInt8):(s.toList==l)=decide (s=⟨l.toArray⟩):=by
 rw [Bool.eq_iff_iff]
 simp only [beq_iff_eq,decide_eq_true_eq]
 constructor
 ·intro h
  have h':=congrArg List.toArray h
  obtain ⟨d⟩:=s
  congr 1
  rw [←h']
  simp [ByteArray.toList_eq]
 ·rintro rfl
  simp [ByteArray.toList_eq]
theorem aX {s:ByteArray} {l:List UInt8} (h:s≠⟨l.toArray⟩):(s.toList==l)=false:=by rw [kE];simpa using h
theorem jA {a b:ByteArray} (h:a=b):Ending.returned (.string a)= .returned (.string b):=by rw [h]
set_option maxHeartbeats 2000000 in
theorem kH (s:ByteArray) (w:World):
  Calls Tryz.prog 189 #[.string s] w fun e w'=>e= .returned (.string (jo s))∧w=w':=by
 by_cases h1:s=⟨#[43]⟩
 ·subst h1
  go_enter Tryz.func189,Tryz.ntmps189
  go_wp2
  go_ret
  exact ⟨jA (by decide),rfl⟩
 by_cases h2:s=⟨#[45]⟩
 ·subst h2
  go_enter Tryz.func189,Tryz.ntmps189
  go_wp2
  go_ret
  exact ⟨jA (by decide),rfl⟩
 by_cases h3:s=⟨#[33]⟩
 ·subst h3
  go_enter Tryz.func189,Tryz.ntmps189
  go_wp2
  go_ret
  exact ⟨jA (by decide),rfl⟩
 by_cases h4:s=⟨#[126]⟩
 ·subst h4
  go_enter Tryz.func189,Tryz.ntmps189
  go_wp2
  go_ret
  exact ⟨jA (by decide),rfl⟩
 have HU:Hid (jo s=ak):=Lib.hid (by unfold jo;rw [if_neg (by simp [h1,h2]),if_neg (by simp [h3,h4])])
 have e1:=aX h1
 have e2:=aX h2
 have e3:=aX h3
 have e4:=aX h4
 clear h1 h2 h3 h4
 go_enter Tryz.func189,Tryz.ntmps189
 go_wp2
 go_ret
 exact ⟨jA (by rw [HU.out];rfl),rfl⟩
end Go.Proofs.YtacfglopionkfaaGreatDoor
