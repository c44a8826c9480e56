import Derived.Test.YtacfglopionkfaaGreatDoorKMt
import Derived.Lib.SlTrimSet
import Derived.LoopTactic
import Derived.Deep.QuietTactic
import Derived.Test.YtacfglopionkfaaGreatDoorKRk
import Derived.Lib.SlBytesConst
import Derived.Shelf.Strings.SlTrimAscii
namespace Go.Proofs.YtacfglopionkfaaGreatDoor
set_option maxRecDepth 100000
open Go.RowKit
def Aj:List UInt8:=[32,9,10]
end Go.Proofs.YtacfglopionkfaaGreatDoor
namespace Go.Proofs.YtacfglopionkfaaGreatDoor
set_option maxRecDepth 100000
open Go.RowKit Go.WideMaps Go.Maps
theorem OL (w:World) (l:List Int) (hb:nN l) (hl:l.length≤1000000) (z:Nat × Nat):Sl (w.alloc (.cells (l.map (Value.int .u8)).toArray 5 z)) (.slice (some ⟨w.heap.size,0,none⟩) l.length l.length) l:=by
 refine ⟨hb,by omega,Or.inr ⟨w.heap.size,0,l.length,rfl,Nat.le_refl _,by omega,fun i hi=>?_⟩⟩
 rw [World.cell?_alloc_mark]
 simp [List.getD_eq_getElem?_getD,List.getElem?_eq_getElem hi]
theorem zC (w:World):(zeroValue 96).run Tryz.prog w= .ok (.agg #[.string ⟨#[]⟩,.string ⟨#[]⟩]) w:=by kernel_rfl
set_option maxHeartbeats 2000000 in
theorem FP (w:World):Calls Tryz.prog 48 #[] w fun e w'=>e= .returned (.pointer (some ⟨w.heap.size,0,none⟩))∧w'.heap[w.heap.size]? =some (.cells #[.map none] 103 (0,0))∧Below w.heap.size w w':=by
 go_enter Tryz.func48,Tryz.ntmps48
 go_wp2_with fail
 go_ret
 exact ⟨rfl,dN w _,(Below.refl _ _).alloc (Nat.le_refl _) _⟩
set_option maxHeartbeats 2000000 in
theorem FU (vb:Nat) (n:ByteArray) (w:World) (hv:w.heap[vb]? =some (.cells #[.map none] 103 (0,0))) (hn:n.size≤maxLen):Calls Tryz.prog 20 #[.pointer (some ⟨vb,0,none⟩),.string n] w fun e w'=>e= .returned (.tuple #[.string ⟨#[]⟩,.bool false])∧Below w.heap.size w w':=by
 obtain ⟨c0,_,hz⟩:=bU hv
 have hlk:=Maps.look_nil (P:=Tryz.prog) (w:=w) true rM Tryz.underlying101 (zC w) (KL.key hn)
 clear hv
 go_enter Tryz.func20,Tryz.ntmps20
 go_wp2_with fail
 go_ret2
 exact ⟨rfl,(Below.refl _ _).alloc (Nat.le_refl _) _⟩
set_option maxHeartbeats 2000000 in
theorem qx (w:World):Calls Tryz.prog 165 #[.string ⟨#[]⟩] w fun e w'=>e= .returned (.tuple #[.int .i64 0,.int .i64 0])∧w=w':=by
 go_enter Tryz.func165,Tryz.ntmps165
 go_wp2_with fail
 go_ret2
 exact ⟨rfl,rfl⟩
def YG:ByteArray→Int × Nat:=fun _=>(0,0)
theorem PN (vb:Nat) (w:World) (hv:w.heap[vb]? =some (.cells #[.map none] 103 (0,0))):zl w.heap.size (some ⟨vb,0,none⟩) w (fun _=>⟨#[]⟩) YG where
 get n X hn hX:=(FU vb n X ((hX.block vb (aV hv)).trans hv) hn).mono (by rintro e w' ⟨rfl,hb⟩;exact ⟨⟨_,rfl⟩,hb⟩)
 num n X _:=(qx X).mono (by rintro e w' ⟨rfl,rfl⟩;exact ⟨rfl,Below.refl _ _⟩)
 fit n:=⟨by unfold I64 YG;omega,by unfold YG;omega⟩
def Oj:List Int:=[49,43,50,42,51]
def TD:Tr:= .bin ⟨#[43]⟩ 1 (.num 1 0) (.bin ⟨#[42]⟩ 3 (.num 2 2) (.num 3 4))
theorem IE: ∃k,cZ Oj 40=some (.ok TD k):=⟨⟨0,5,5,ak,0,false⟩,by kernel_rfl⟩
theorem Ku {l:List Int} (h:l.all (fun x=>decide (0≤x) && decide (x≤255))=true):nN l:=fun i=>by
 rw [List.getD_eq_getElem?_getD]
 cases hi:l[i]? with
 | none=>simp
 | some x=>
  have:=List.all_eq_true.1 h x (List.mem_of_getElem? hi)
  simp at this⊢
  omega
theorem UR:ev YG TD []= .ok 7 []:=by kernel_rfl
set_option maxHeartbeats 4000000 in
theorem uK (s:Nat→Addr) (w:World) (hs:Er w s) (hT:TP w):Calls Tryz.prog 23 #[] w fun e w'=>e= .returned (.bool true)∧Below w.heap.size w w':=by
 obtain ⟨k,hpar⟩:=IE
 have xK:Hid (∀z vb X,Below w.heap.size (w.alloc (.cells #[.int .u8 49,.int .u8 43,.int .u8 50,.int .u8 42,.int .u8 51] 5 z)) X→Below (w.heap.size+1) (w.alloc (.cells #[.int .u8 49,.int .u8 43,.int .u8 50,.int .u8 42,.int .u8 51] 5 z)) X→X.heap[vb]? =some (.cells #[.map none] 103 (0,0))→
   Calls Tryz.prog 24 #[.slice (some ⟨w.heap.size,0,none⟩) 5 5,.pointer (some ⟨vb,0,none⟩)] X fun e w'=>e= .returned (.tuple #[.int .i64 7,.nilIface])∧Below X.heap.size X w'):=Lib.hid (fun z vb X hb0 hb hv=>by
  have hb1:Below w.heap.size w X:=((Below.refl _ _).alloc (Nat.le_refl _) _).trans hb0
  have hsl:=OL w Oj (Ku (by decide)) (by decide) z
  have hsz:(w.alloc (.cells (Oj.map (Value.int .u8)).toArray 5 z)).heap.size=w.heap.size+1:=by simp
  refine (PL _ Oj 40 TD k _ X (fun _=>⟨#[]⟩) YG s hpar (Ku (by decide)) (hsl.below (by rw [hsz];exact hb)) (hs.below hb1) (hT.below hb1) (fun W hW=>PN vb W (jg hv hW)) _ UR (by simp) (Or.inr fun x e h=>by cases h;rfl)).mono ?_
  rintro e w' ⟨he,hb'⟩
  exact ⟨he,hb'⟩)
 have HNW:=Lib.hid FP
 obtain ⟨W0,hW0⟩: ∃W0,W0=w.alloc (.cells #[.int .u8 49,.int .u8 43,.int .u8 50,.int .u8 42,.int .u8 51] 5 (5,6)):=⟨_,rfl⟩
 have hsz:W0.heap.size=w.heap.size+1:=by rw [hW0];simp
 have HB0:Hid (Below w.heap.size w W0):=Lib.hid (by rw [hW0];exact (Below.refl _ _).alloc (Nat.le_refl _) _)
 have HW0:=Lib.hid hW0
 have RX:=Lib.hid hsz
 have kc:=fun (w:World) (C:Array Value) (n c:Nat)=>Lib.run_convert_bytes_const (P:=Tryz.prog) w 22 5 C n c Tryz.underlying22 Tryz.underlying5
 clear hs hT hpar hW0 hsz
 go_enter Tryz.func23,Tryz.ntmps23
 go_wp2_with fail
 rw [←HW0.out]
 refine (HNW.out W0).mono ?_
 rintro e w1 ⟨rfl,hv,hb1⟩
 rw [RX.out] at hv hb1⊢
 have HB1:=Lib.hid (HB0.out.trans (hb1.mono (Nat.le_succ _)))
 have HEC:=Lib.hid (xK.out (5,6) (w.heap.size+1) w1 (by rw [←HW0.out];exact hb1.mono (Nat.le_succ _)) (by rw [←HW0.out];exact hb1) hv)
 clear hv hb1
 go_wp2_with fail
 refine HEC.out.mono ?_
 rintro e w2 ⟨rfl,hb2⟩
 have HB2:=Lib.hid (HB1.out.trans (hb2.mono HB1.out.size))
 clear hb2
 go_wp2_with fail
 go_ret
 exact ⟨rfl,HB2.out⟩
end Go.Proofs.YtacfglopionkfaaGreatDoor
namespace Go.Proofs.YtacfglopionkfaaGreatDoor
set_option maxRecDepth 100000
open Go.RowKit
def minS:ByteArray:=⟨#[45,57,50,50,51,51,55,50,48,51,54,56,53,52,55,55,53,56,48,56]⟩
theorem xE:(⟨(Lib.itoa (-9223372036854775808)).toArray⟩:ByteArray)=⟨#[45,57,50,50,51,51,55,50,48,51,54,56,53,52,55,55,53,56,48,56]⟩:=by kernel_rfl
def yA (T:ByteArray):Bool:=Lib.hasPrefix T.data.toList [45]
def y9 (T:ByteArray):ByteArray:=if yA T=true then ⟨(Lib.trimPrefix T.data.toList [45]).toArray⟩ else ⟨(Lib.trimPrefix T.data.toList [43]).toArray⟩
def pO (neg:Bool) (l:List Int):Int × Nat:=
 if cN l=0∨cN l<l.length then (0,13) else if cO l=true then (0,6) else (if neg=true then wrap64 (-(cV l)) else cV l,0)
def JL (T:ByteArray):Int × Nat:=if T=minS then (-9223372036854775808,0) else pO (yA T) (bT (y9 T))
def numOf (s:ByteArray):Int × Nat:=if s=⟨#[]⟩ then (0,0) else JL ⟨(Lib.trimS s.data.toList Aj).toArray⟩
theorem yC (s:ByteArray):(⟨(Lib.trimS s.data.toList Aj).toArray⟩:ByteArray).size≤s.size:=by
 show (Lib.trimS s.data.toList Aj).toArray.size≤s.data.size
 have h1:(Lib.trimS s.data.toList Aj).length≤s.data.toList.length:=by
  unfold Lib.trimS Lib.trimLeftS Lib.trimRightS
  refine Nat.le_trans (List.dropWhile_sublist _).length_le ?_
  rw [List.length_reverse]
  refine Nat.le_trans (List.dropWhile_sublist _).length_le ?_
  rw [List.length_reverse]
  exact Nat.le_refl _
 simpa using h1
theorem nV (T:ByteArray) (p:List UInt8):(⟨(Lib.trimPrefix T.data.toList p).toArray⟩:ByteArray).size≤T.size:=by
 show (Lib.trimPrefix T.data.toList p).toArray.size≤T.data.size
 unfold Lib.trimPrefix
 split<;>simp
theorem GI (s:ByteArray) (w:World) (hs:s.size≤9223372036854775807):Calls Tryz.prog 181 #[.string s,.string ⟨#[32,9,10]⟩] w fun e w'=>e= .returned (.string ⟨(Lib.trimS s.data.toList Aj).toArray⟩)∧Below w.heap.size w w':=
 Any.strings_Trim_laid Tryz.lays160 (by kernel_rfl) s ⟨#[32,9,10]⟩ w hs (by decide) (ascii_of_all (by decide))
set_option maxHeartbeats 8000000 in
theorem zZ (s:ByteArray) (w:World) (hs:s.size≤9223372036854775807) (hT:TP w):Calls Tryz.prog 165 #[.string s] w fun e w'=>e= .returned (.tuple #[.int .i64 (numOf s).1,.int .i64 ((numOf s).2:Nat)])∧Below w.heap.size w w':=by
 by_cases hE:s=⟨#[]⟩
 ·subst hE
  exact (qx w).mono (by rintro e w' ⟨rfl,rfl⟩;exact ⟨rfl,Below.refl _ _⟩)
 have tn:=aX (l:=[]) hE
 have RY:Hid (numOf s=JL ⟨(Lib.trimS s.data.toList Aj).toArray⟩):=if_neg hE
 have Gh:=Lib.hid (GI s w hs)
 have hTz:=yC s
 have Bj:Hid (∀X,Below w.heap.size w X→Calls Tryz.prog 99 #[.int .i64 (-9223372036854775808)] X fun e w'=>e= .returned (.string ⟨#[45,57,50,50,51,51,55,50,48,51,54,56,53,52,55,55,53,56,48,56]⟩)∧Below X.heap.size X w'):=Lib.hid (fun X hX=>by
  have h:=qL (-9223372036854775808) X (by omega) (by omega) (hT.below hX)
  rw [xE] at h
  exact h)
 generalize (⟨(Lib.trimS s.data.toList Aj).toArray⟩:ByteArray)=T at*
 generalize numOf s=r at*
 clear hT hE
 by_cases hm:T=minS
 ·have HR:Hid (r=(-9223372036854775808,0)):=RY.out.trans (if_pos hm)
  obtain rfl:T=⟨#[45,57,50,50,51,51,55,50,48,51,54,56,53,52,55,55,53,56,48,56]⟩:=hm
  clear RY
  go_enter Tryz.func165,Tryz.ntmps165
  go_wp2_with fail
  refine Gh.out.mono ?_
  rintro e w1 ⟨rfl,hb1⟩
  have HB1:=Lib.hid hb1
  clear hb1
  go_wp2_with fail
  refine (Bj.out w1 HB1.out).mono ?_
  rintro e w2 ⟨rfl,hb2⟩
  have HB2:=Lib.hid (HB1.out.trans (hb2.mono HB1.out.size))
  clear hb2
  go_wp2_with fail
  go_ret2
  exact ⟨by rw [HR.out];rfl,HB2.out⟩
 have tm:(T.toList==[45,57,50,50,51,51,55,50,48,51,54,56,53,52,55,55,53,56,48,56])=false:=aX (l:=[45,57,50,50,51,51,55,50,48,51,54,56,53,52,55,55,53,56,48,56]) hm
 have HR0:Hid (r=pO (yA T) (bT (y9 T))):=RY.out.trans (if_neg hm)
 have Gl:Hid (∀X,Calls Tryz.prog 182 #[.string T,.string ⟨#[45]⟩] X fun e w'=>e= .returned (.tuple #[.string ⟨(Lib.trimPrefix T.data.toList [45]).toArray⟩,.bool (yA T)])∧w'=X):=Lib.hid (fun X=>Tryz.strings_CutPrefix T ⟨#[45]⟩ X)
 have AY:Hid (∀X,Calls Tryz.prog 183 #[.string T,.string ⟨#[43]⟩] X fun e w'=>e= .returned (.string ⟨(Lib.trimPrefix T.data.toList [43]).toArray⟩)∧w'=X):=Lib.hid (fun X=>Tryz.strings_TrimPrefix T ⟨#[43]⟩ X)
 clear RY hm
 cases hn:yA T
 ·have HR:Hid (r=pO false (bT ⟨(Lib.trimPrefix T.data.toList [43]).toArray⟩)):=HR0.out.trans (by unfold y9;rw [hn];rfl)
  have hUz:=nV T [43]
  rw [hn] at Gl
  clear HR0 hn
  generalize (⟨(Lib.trimPrefix T.data.toList [43]).toArray⟩:ByteArray)=U at*
  go_enter Tryz.func165,Tryz.ntmps165
  go_wp2_with fail
  refine Gh.out.mono ?_
  rintro e w1 ⟨rfl,hb1⟩
  have HB1:=Lib.hid hb1
  clear hb1
  go_wp2_with fail
  refine (Bj.out w1 HB1.out).mono ?_
  rintro e w2 ⟨rfl,hb2⟩
  have HB2:=Lib.hid (HB1.out.trans (hb2.mono HB1.out.size))
  clear hb2
  obtain ⟨cap,W1,hconv,hrow,hbel⟩:=mZ w2 U (by omega)
  have HC:=Lib.hid (uf _ (bT U) W1 hrow)
  have HB3:=Lib.hid (HB2.out.trans (hbel.mono HB2.out.size))
  have HR1:r=(if cN (bT U)=0∨cN (bT U)<U.size then ((0:Int),13) else if cO (bT U)=true then (0,6) else (cV (bT U),0)):=HR.out.trans (by unfold pO;rw [bC];rfl)
  clear HR hrow hbel
  generalize cN (bT U)=n at HR1 HC
  generalize cV (bT U)=x at HR1 HC
  generalize cO (bT U)=o at HR1 HC
  rcases Nat.eq_zero_or_pos n with rfl | h0
  ·have HR2:Hid (r=(0,13)):=HR1.trans (if_pos (Or.inl rfl))
   clear HR1
   go_wp2_with fail
   refine (Gl.out _).mono ?_
   rintro e w3 ⟨rfl,rfl⟩
   go_wp2_with fail
   refine (AY.out _).mono ?_
   rintro e w4 ⟨rfl,rfl⟩
   go_wp2_with fail
   refine HC.out.mono ?_
   rintro e w5 ⟨rfl,rfl⟩
   go_wp2_with fail
   go_ret2
   exact ⟨by rw [HR2.out];rfl,HB3.out⟩
  ·have h0': ¬(n:Int)=0:=by omega
   rcases Nat.lt_or_ge n U.size with h1 | h1
   ·have HR2:Hid (r=(0,13)):=HR1.trans (if_pos (Or.inr h1))
    have h1':(n:Int)<U.size:=by omega
    clear HR1
    go_wp2_with fail
    refine (Gl.out _).mono ?_
    rintro e w3 ⟨rfl,rfl⟩
    go_wp2_with fail
    refine (AY.out _).mono ?_
    rintro e w4 ⟨rfl,rfl⟩
    go_wp2_with fail
    refine HC.out.mono ?_
    rintro e w5 ⟨rfl,rfl⟩
    go_wp2_with fail
    go_ret2
    exact ⟨by rw [HR2.out];rfl,HB3.out⟩
   ·have h1': ¬(n:Int)<U.size:=by omega
    have hif: ¬(n=0∨n<U.size):=by omega
    cases o
    ·have HR2:Hid (r=(x,0)):=HR1.trans ((if_neg hif).trans (if_neg (by decide)))
     clear HR1 hif
     go_wp2_with fail
     refine (Gl.out _).mono ?_
     rintro e w3 ⟨rfl,rfl⟩
     go_wp2_with fail
     refine (AY.out _).mono ?_
     rintro e w4 ⟨rfl,rfl⟩
     go_wp2_with fail
     refine HC.out.mono ?_
     rintro e w5 ⟨rfl,rfl⟩
     go_wp2_with fail
     go_ret2
     exact ⟨by rw [HR2.out];rfl,HB3.out⟩
    ·have HR2:Hid (r=(0,6)):=HR1.trans ((if_neg hif).trans (if_pos rfl))
     clear HR1 hif
     go_wp2_with fail
     refine (Gl.out _).mono ?_
     rintro e w3 ⟨rfl,rfl⟩
     go_wp2_with fail
     refine (AY.out _).mono ?_
     rintro e w4 ⟨rfl,rfl⟩
     go_wp2_with fail
     refine HC.out.mono ?_
     rintro e w5 ⟨rfl,rfl⟩
     go_wp2_with fail
     go_ret2
     exact ⟨by rw [HR2.out];rfl,HB3.out⟩
 ·have HR:Hid (r=pO true (bT ⟨(Lib.trimPrefix T.data.toList [45]).toArray⟩)):=HR0.out.trans (by unfold y9;rw [hn];rfl)
  have hUz:=nV T [45]
  rw [hn] at Gl
  clear HR0 hn
  generalize (⟨(Lib.trimPrefix T.data.toList [45]).toArray⟩:ByteArray)=U at*
  go_enter Tryz.func165,Tryz.ntmps165
  go_wp2_with fail
  refine Gh.out.mono ?_
  rintro e w1 ⟨rfl,hb1⟩
  have HB1:=Lib.hid hb1
  clear hb1
  go_wp2_with fail
  refine (Bj.out w1 HB1.out).mono ?_
  rintro e w2 ⟨rfl,hb2⟩
  have HB2:=Lib.hid (HB1.out.trans (hb2.mono HB1.out.size))
  clear hb2
  obtain ⟨cap,W1,hconv,hrow,hbel⟩:=mZ w2 U (by omega)
  have HC:=Lib.hid (uf _ (bT U) W1 hrow)
  have HB3:=Lib.hid (HB2.out.trans (hbel.mono HB2.out.size))
  have HR1:r=(if cN (bT U)=0∨cN (bT U)<U.size then ((0:Int),13) else if cO (bT U)=true then (0,6) else (wrap64 (-(cV (bT U))),0)):=HR.out.trans (by unfold pO;rw [bC];rfl)
  clear HR hrow hbel
  generalize cN (bT U)=n at HR1 HC
  generalize cV (bT U)=x at HR1 HC
  generalize cO (bT U)=o at HR1 HC
  rcases Nat.eq_zero_or_pos n with rfl | h0
  ·have HR2:Hid (r=(0,13)):=HR1.trans (if_pos (Or.inl rfl))
   clear HR1
   go_wp2_with fail
   refine (Gl.out _).mono ?_
   rintro e w3 ⟨rfl,rfl⟩
   go_wp2_with fail
   refine HC.out.mono ?_
   rintro e w5 ⟨rfl,rfl⟩
   go_wp2_with fail
   go_ret2
   exact ⟨by rw [HR2.out];rfl,HB3.out⟩
  ·have h0': ¬(n:Int)=0:=by omega
   rcases Nat.lt_or_ge n U.size with h1 | h1
   ·have HR2:Hid (r=(0,13)):=HR1.trans (if_pos (Or.inr h1))
    have h1':(n:Int)<U.size:=by omega
    clear HR1
    go_wp2_with fail
    refine (Gl.out _).mono ?_
    rintro e w3 ⟨rfl,rfl⟩
    go_wp2_with fail
    refine HC.out.mono ?_
    rintro e w5 ⟨rfl,rfl⟩
    go_wp2_with fail
    go_ret2
    exact ⟨by rw [HR2.out];rfl,HB3.out⟩
   ·have h1': ¬(n:Int)<U.size:=by omega
    have hif: ¬(n=0∨n<U.size):=by omega
    cases o
    ·have HR2:Hid (r=(wrap64 (-x),0)):=HR1.trans ((if_neg hif).trans (if_neg (by decide)))
     clear HR1 hif
     go_wp2_with fail
     refine (Gl.out _).mono ?_
     rintro e w3 ⟨rfl,rfl⟩
     go_wp2_with fail
     refine HC.out.mono ?_
     rintro e w5 ⟨rfl,rfl⟩
     go_wp2_with fail
     go_ret2
     exact ⟨by rw [HR2.out];rfl,HB3.out⟩
    ·have HR2:Hid (r=(0,6)):=HR1.trans ((if_neg hif).trans (if_pos rfl))
     clear HR1 hif
     go_wp2_with fail
     refine (Gl.out _).mono ?_
     rintro e w3 ⟨rfl,rfl⟩
     go_wp2_with fail
     refine HC.out.mono ?_
     rintro e w5 ⟨rfl,rfl⟩
     go_wp2_with fail
     go_ret2
     exact ⟨by rw [HR2.out];rfl,HB3.out⟩
end Go.Proofs.YtacfglopionkfaaGreatDoor
