import Derived.Test.YtacfglopionkfaaGreatDoorKRk
import Derived.Shelf.Strings.SlTrimAscii
import Derived.Test.YtacfglopionkfaaGreatDoorKDr
namespace Go.Proofs.YtacfglopionkfaaGreatDoor
set_option maxHeartbeats 8000000
set_option maxRecDepth 100000
open Go.RowKit
def Aj:List UInt8:=[32,9,10]
theorem zD (c:UInt8):Aj.contains c=bM (c.toNat:Int):=by
 rw [Bool.eq_iff_iff]
 simp only [Aj,List.contains_cons,List.contains_nil,Bool.or_eq_true,beq_iff_eq,Bool.or_false,bM]
 constructor
 ·rintro (rfl | rfl | rfl)<;>decide
 ·intro h
  have h3:c.toNat=32∨c.toNat=9∨c.toNat=10:=by omega
  rcases h3 with h3 | h3 | h3
  ·exact Or.inl (UInt8.toNat_inj.1 h3)
  ·exact Or.inr (Or.inl (UInt8.toNat_inj.1 h3))
  ·exact Or.inr (Or.inr (UInt8.toNat_inj.1 h3))
theorem wW {α:Type} (p:α→Bool) (a:α) (l:List α):(((a::l).reverse.dropWhile p).reverse)=if (l.reverse.dropWhile p).isEmpty∧p a=true then [] else a::(l.reverse.dropWhile p).reverse:=by
 rw [List.reverse_cons,List.dropWhile_append]
 by_cases h:(l.reverse.dropWhile p).isEmpty=true
 ·rw [if_pos h]
  have h0:l.reverse.dropWhile p=[]:=by simpa using h
  by_cases ha:p a=true
  ·rw [if_pos ⟨h,ha⟩];simp [ha]
  ·rw [if_neg (fun hh=>ha hh.2)];simp [ha,h0]
 ·rw [if_neg h,if_neg (fun hh=>h hh.1)]
  simp
theorem GH {α:Type} (p:α→Bool): ∀l:List α,(((l.dropWhile p).reverse.dropWhile p).reverse)=((l.reverse.dropWhile p).reverse).dropWhile p
 | []=>by simp
 | a::l=>by
  have ih:=GH p l
  rw [wW]
  by_cases ha:p a=true
  ·rw [List.dropWhile_cons,if_pos ha,ih]
   by_cases h:(l.reverse.dropWhile p).isEmpty=true
   ·rw [if_pos ⟨h,ha⟩]
    have h0:l.reverse.dropWhile p=[]:=by simpa using h
    rw [h0];simp
   ·rw [if_neg (fun hh=>h hh.1),List.dropWhile_cons,if_pos ha]
  ·rw [List.dropWhile_cons,if_neg ha,wW,if_neg (fun hh=>ha hh.2),List.dropWhile_cons,if_neg ha]
theorem uG (c:Int) (w:World):Calls Tryz.prog 78 #[.int .u8 c] w fun e w'=>e= .returned (.bool (bM c))∧w=w':=by
 have hd: ∃x,x=bM c:=⟨_,rfl⟩
 obtain ⟨x,hx⟩:=hd
 rw [←hx]
 have HX:=Lib.hid hx
 clear hx
 go_enter Tryz.func78,Tryz.ntmps78
 go_wp2
 all_goals
  go_ret
  exact ⟨bK (by rw [HX.out];unfold bM;rw [Bool.eq_iff_iff];simp;try omega),rfl⟩
def RF (x:ByteArray):List UInt8:=x.data.toList.dropWhile (Aj.contains ·)
def Jq (x:ByteArray):List UInt8:=x.data.toList.reverse.dropWhile (Aj.contains ·)
theorem ext_list (s:ByteArray) (a b:Nat):(s.extract a b).data.toList=(s.data.toList.drop a).take (b - a):=by
 rw [ByteArray.data_extract,Array.toList_extract]
theorem XO {x:ByteArray} (h0:0<x.size) (hw:bM (x[0].toNat:Int)=true):RF (x.extract 1 x.size)=RF x:=by
 unfold RF
 rw [ext_list]
 have hl:x.data.toList.length=x.size:=by rw [Array.length_toList];rfl
 have ha:x.data.toList[0]? =some x[0]:=by rw [List.getElem?_eq_getElem (by omega)];rfl
 cases hx:x.data.toList with
 | nil=>rw [hx] at hl;simp at hl;omega
 | cons a t=>
  rw [hx] at ha hl
  have ha':a=x[0]:=by simpa using ha
  rw [←zD, ←ha'] at hw
  rw [List.drop_succ_cons,List.drop_zero,List.take_of_length_le (by simp at hl;omega),List.dropWhile_cons,if_pos hw]
theorem XM {x:ByteArray} (h0:0<x.size) (hw:bM (x[0].toNat:Int)=false):RF x=x.data.toList:=by
 unfold RF
 have hl:x.data.toList.length=x.size:=by rw [Array.length_toList];rfl
 have ha:x.data.toList[0]? =some x[0]:=by rw [List.getElem?_eq_getElem (by omega)];rfl
 cases hx:x.data.toList with
 | nil=>rfl
 | cons a t=>
  rw [hx] at ha
  have ha':a=x[0]:=by simpa using ha
  rw [←zD, ←ha'] at hw
  rw [List.dropWhile_cons,if_neg (by rw [hw];decide)]
theorem Pz {y:ByteArray} (h0:0<y.size): ∃l,y.data.toList=l++[y[y.size - 1]'(by omega)]∧(y.extract 0 (y.size - 1)).data.toList=l:=by
 have hl:y.data.toList.length=y.size:=by rw [Array.length_toList];rfl
 rcases List.eq_nil_or_concat y.data.toList with h | ⟨l,b,h⟩
 ·rw [h] at hl;simp at hl;omega
 ·refine ⟨l,?_,?_⟩
  ·have hb:y.data.toList[y.size - 1]? =some (y[y.size - 1]'(by omega)):=by rw [List.getElem?_eq_getElem (by omega)];rfl
   have hll:l.length=y.size - 1:=by rw [←hl,h];simp
   have hb2:(l.concat b)[l.length]? =some b:=by simp
   rw [←h,hll,hb] at hb2
   exact h.trans ((List.concat_eq_append ..).trans (congrArg (fun c=>l++[c]) (Option.some.inj hb2).symm))
  ·rw [ext_list,h]
   have hll:l.length=y.size - 1:=by rw [←hl,h];simp
   simp [←hll]
theorem OV {y:ByteArray} (h0:0<y.size) (hw:bM ((y[y.size - 1]'(by omega)).toNat:Int)=true):Jq (y.extract 0 (y.size - 1))=Jq y:=by
 obtain ⟨l,h1,h2⟩:=Pz h0
 unfold Jq
 rw [h2,h1,List.reverse_append,List.reverse_singleton,List.singleton_append,List.dropWhile_cons,if_pos (by rw [zD];exact hw)]
theorem OU {y:ByteArray} (h0:0<y.size) (hw:bM ((y[y.size - 1]'(by omega)).toNat:Int)=false):Jq y=y.data.toList.reverse:=by
 obtain ⟨l,h1,h2⟩:=Pz h0
 unfold Jq
 rw [h1,List.reverse_append,List.reverse_singleton,List.singleton_append,List.dropWhile_cons,if_neg (by rw [zD,hw];decide)]
theorem zO {s x y:ByteArray} (hx:RF s=x.data.toList) (hy:Jq x=y.data.toList.reverse):(⟨(Lib.trimS s.data.toList Aj).toArray⟩:ByteArray)=y:=by
 have h:Lib.trimS s.data.toList Aj=y.data.toList:=by
  unfold Lib.trimS Lib.trimLeftS Lib.trimRightS
  rw [←GH,show s.data.toList.dropWhile (Aj.contains ·)=x.data.toList from hx,show x.data.toList.reverse.dropWhile (Aj.contains ·)=y.data.toList.reverse from hy,List.reverse_reverse]
 rw [h]
def aac:Value→Nat
 | .string b=>b.size
 | _=>0
set_option maxHeartbeats 4000000 in
theorem MP (s:ByteArray) (w:World) (hs:s.size≤9223372036854775807):Calls Tryz.prog 168 #[.string s] w fun e w'=>e= .returned (.string ⟨(Lib.trimS s.data.toList Aj).toArray⟩)∧w=w':=by
 go_enter Tryz.func168,Tryz.ntmps168
 go_wp2_with fail
 go_loop [0] (fun v=> ∃x:ByteArray,v= .string x∧x.size≤s.size∧Hid (RF x=RF s)) aac
 case atStart=>exact ⟨s,rfl,Nat.le_refl _,rfl⟩
 case round=>
  obtain ⟨x,rfl,hz,HX⟩:=hrel
  by_cases hE:x=⟨#[]⟩
  ·subst hE
   have HL:Hid (RF s=(⟨#[]⟩:ByteArray).data.toList):=HX.out.symm
   go_wp2_with fail
   go_loop [0] (fun v=> ∃y:ByteArray,v= .string y∧y.size≤s.size∧Hid (Jq y=Jq ⟨#[]⟩)) aac
   case atStart=>exact ⟨_,rfl,hz,rfl⟩
   case round=>
    obtain ⟨y,rfl,hy,HY⟩:=hrel
    by_cases hE:y=⟨#[]⟩
    ·subst hE
     have HR:Hid (Jq ⟨#[]⟩=(⟨#[]⟩:ByteArray).data.toList.reverse):=HY.out.symm
     go_wp2_with fail
     go_ret
     exact ⟨jA (zO HL.out HR.out).symm,rfl⟩
    ·have tn:=aX (l:=[]) hE
     have h0:0<y.size:=Nat.pos_of_ne_zero fun h=>hE (by obtain ⟨a⟩:=y;exact congrArg ByteArray.mk (Array.eq_empty_of_size_eq_zero h))
     have h0':(0:Int)<y.size:=by omega
     have HW:=Lib.hid (uG ((y[y.size - 1]'(by omega)).toNat:Int) w)
     have HST:=Lib.hid (fun h=>OV (y:=y) h0 h)
     have Sv:=Lib.hid (fun h=>OU (y:=y) h0 h)
     cases hw:bM ((y[y.size - 1]'(by omega)).toNat:Int)
     ·rw [hw] at HW
      have HR:Hid (Jq ⟨#[]⟩=y.data.toList.reverse):=HY.out.symm.trans (Sv.out hw)
      clear Sv HST hw
      go_wp2_with fail
      refine HW.out.mono ?_
      rintro e w1 ⟨rfl,rfl⟩
      go_wp2_with fail
      go_ret
      exact ⟨jA (zO HL.out HR.out).symm,rfl⟩
     ·rw [hw] at HW
      have HR:Hid (Jq (y.extract 0 (y.size - 1))=Jq ⟨#[]⟩):=(HST.out hw).trans HY.out
      clear Sv HST hw
      go_wp2_with fail
      refine HW.out.mono ?_
      rintro e w1 ⟨rfl,rfl⟩
      go_wp2_with fail
      have hzz:(y.extract 0 (y.size - 1)).size=y.size - 1:=by rw [ByteArray.size_extract];omega
      exact ⟨⟨_,rfl,by omega,HR⟩,by show (y.extract 0 (y.size - 1)).size<y.size;omega⟩
  ·have tn:=aX (l:=[]) hE
   have h0:0<x.size:=Nat.pos_of_ne_zero fun h=>hE (by obtain ⟨a⟩:=x;exact congrArg ByteArray.mk (Array.eq_empty_of_size_eq_zero h))
   have h0':(0:Int)<x.size:=by omega
   have HW:=Lib.hid (uG (x[0].toNat:Int) w)
   have HST:=Lib.hid (fun h=>XO (x:=x) h0 h)
   have Sv:=Lib.hid (fun h=>XM (x:=x) h0 h)
   cases hw:bM (x[0].toNat:Int)
   ·rw [hw] at HW
    have HL:Hid (RF s=x.data.toList):=HX.out.symm.trans (Sv.out hw)
    clear Sv HST hw
    go_wp2_with fail
    refine HW.out.mono ?_
    rintro e w1 ⟨rfl,rfl⟩
    go_wp2_with fail
    clear HW tn
    go_loop [0] (fun v=> ∃y:ByteArray,v= .string y∧y.size≤s.size∧Hid (Jq y=Jq x)) aac
    case atStart=>exact ⟨_,rfl,hz,rfl⟩
    case round=>
     obtain ⟨y,rfl,hy,HY⟩:=hrel
     by_cases hE:y=⟨#[]⟩
     ·subst hE
      have HR:Hid (Jq x=(⟨#[]⟩:ByteArray).data.toList.reverse):=HY.out.symm
      go_wp2_with fail
      go_ret
      exact ⟨jA (zO HL.out HR.out).symm,rfl⟩
     ·have tn:=aX (l:=[]) hE
      have h0:0<y.size:=Nat.pos_of_ne_zero fun h=>hE (by obtain ⟨a⟩:=y;exact congrArg ByteArray.mk (Array.eq_empty_of_size_eq_zero h))
      have h0':(0:Int)<y.size:=by omega
      have HW:=Lib.hid (uG ((y[y.size - 1]'(by omega)).toNat:Int) w)
      have HST:=Lib.hid (fun h=>OV (y:=y) h0 h)
      have Sv:=Lib.hid (fun h=>OU (y:=y) h0 h)
      cases hw:bM ((y[y.size - 1]'(by omega)).toNat:Int)
      ·rw [hw] at HW
       have HR:Hid (Jq x=y.data.toList.reverse):=HY.out.symm.trans (Sv.out hw)
       clear Sv HST hw
       go_wp2_with fail
       refine HW.out.mono ?_
       rintro e w1 ⟨rfl,rfl⟩
       go_wp2_with fail
       go_ret
       exact ⟨jA (zO HL.out HR.out).symm,rfl⟩
      ·rw [hw] at HW
       have HR:Hid (Jq (y.extract 0 (y.size - 1))=Jq x):=(HST.out hw).trans HY.out
       clear Sv HST hw
       go_wp2_with fail
       refine HW.out.mono ?_
       rintro e w1 ⟨rfl,rfl⟩
       go_wp2_with fail
       have hzz:(y.extract 0 (y.size - 1)).size=y.size - 1:=by rw [ByteArray.size_extract];omega
       exact ⟨⟨_,rfl,by omega,HR⟩,by show (y.extract 0 (y.size - 1)).size<y.size;omega⟩
   ·rw [hw] at HW
    have HL:Hid (RF (x.extract 1 x.size)=RF s):=(HST.out hw).trans HX.out
    clear Sv HST hw
    go_wp2_with fail
    refine HW.out.mono ?_
    rintro e w1 ⟨rfl,rfl⟩
    go_wp2_with fail
    have hzz:(x.extract 1 x.size).size=x.size - 1:=by rw [ByteArray.size_extract];omega
    exact ⟨⟨_,rfl,by omega,HL⟩,by show (x.extract 1 x.size).size<x.size;omega⟩
end Go.Proofs.YtacfglopionkfaaGreatDoor
namespace Go.Proofs.YtacfglopionkfaaGreatDoor
set_option maxHeartbeats 8000000
set_option maxRecDepth 100000
open Go.RowKit Go.WideMaps Go.Maps
theorem OL (w:World) (l:List Int) (hb:nN l) (hl:l.length≤1000000) (z:Nat × Nat):Sl (w.alloc (.cells (l.map (Value.int .u8)).toArray 5 z)) (.slice (some ⟨w.heap.size,0,none⟩) l.length l.length) l:=by
 refine ⟨hb,by omega,Or.inr ⟨w.heap.size,0,l.length,rfl,Nat.le_refl _,by omega,fun i hi=>?_⟩⟩
 rw [World.cell?_alloc_mark]
 simp [List.getD_eq_getElem?_getD,List.getElem?_eq_getElem hi]
theorem zC (w:World):(zeroValue 96).run Tryz.prog w= .ok (.agg #[.string ⟨#[]⟩,.string ⟨#[]⟩]) w:=by kernel_rfl
set_option maxHeartbeats 2000000 in
theorem FP (w:World):Calls Tryz.prog 48 #[] w fun e w'=>e= .returned (.pointer (some ⟨w.heap.size,0,none⟩))∧w'.heap[w.heap.size]? =some (.cells #[.map none] 103 (0,0))∧Below w.heap.size w w':=by
 go_enter Tryz.func48,Tryz.ntmps48
 go_wp2_with fail
 go_ret
 exact ⟨rfl,dN w _,(Below.refl _ _).alloc (Nat.le_refl _) _⟩
set_option maxHeartbeats 2000000 in
theorem FU (vb:Nat) (n:ByteArray) (w:World) (hv:w.heap[vb]? =some (.cells #[.map none] 103 (0,0))) (hn:n.size≤maxLen):Calls Tryz.prog 20 #[.pointer (some ⟨vb,0,none⟩),.string n] w fun e w'=>e= .returned (.tuple #[.string ⟨#[]⟩,.bool false])∧Below w.heap.size w w':=by
 obtain ⟨c0,_,hz⟩:=bU hv
 have hlk:=Maps.look_nil (P:=Tryz.prog) (w:=w) true rM Tryz.underlying101 (zC w) (KL.key hn)
 clear hv
 go_enter Tryz.func20,Tryz.ntmps20
 go_wp2_with fail
 go_ret2
 exact ⟨rfl,(Below.refl _ _).alloc (Nat.le_refl _) _⟩
set_option maxHeartbeats 2000000 in
theorem qx (w:World):Calls Tryz.prog 165 #[.string ⟨#[]⟩] w fun e w'=>e= .returned (.tuple #[.int .i64 0,.int .i64 0])∧w=w':=by
 go_enter Tryz.func165,Tryz.ntmps165
 go_wp2_with fail
 go_ret2
 exact ⟨rfl,rfl⟩
def YG:ByteArray→Int × Nat:=fun _=>(0,0)
theorem PN (vb:Nat) (w:World) (hv:w.heap[vb]? =some (.cells #[.map none] 103 (0,0))):zl w.heap.size (some ⟨vb,0,none⟩) w (fun _=>⟨#[]⟩) YG where
 get n X hn hX:=(FU vb n X ((hX.block vb (aV hv)).trans hv) hn).mono (by rintro e w' ⟨rfl,hb⟩;exact ⟨⟨_,rfl⟩,hb⟩)
 num n X _:=(qx X).mono (by rintro e w' ⟨rfl,rfl⟩;exact ⟨rfl,Below.refl _ _⟩)
 fit n:=⟨by unfold I64 YG;omega,by unfold YG;omega⟩
def Oj:List Int:=[49,43,50,42,51]
def TD:Tr:= .bin ⟨#[43]⟩ 1 (.num 1 0) (.bin ⟨#[42]⟩ 3 (.num 2 2) (.num 3 4))
theorem IE: ∃k,cZ Oj 40=some (.ok TD k):=⟨⟨0,5,5,ak,0,false⟩,by kernel_rfl⟩
theorem Ku {l:List Int} (h:l.all (fun x=>decide (0≤x) && decide (x≤255))=true):nN l:=fun i=>by
 rw [List.getD_eq_getElem?_getD]
 cases hi:l[i]? with
 | none=>simp
 | some x=>
  have:=List.all_eq_true.1 h x (List.mem_of_getElem? hi)
  simp at this⊢
  omega
theorem UR:ev YG TD []= .ok 7 []:=by kernel_rfl
set_option maxHeartbeats 4000000 in
theorem uK (s:Nat→Addr) (w:World) (hs:Er w s) (hT:TP w):Calls Tryz.prog 23 #[] w fun e w'=>e= .returned (.bool true)∧Below w.heap.size w w':=by
 obtain ⟨k,hpar⟩:=IE
 have xK:Hid (∀z vb X,Below w.heap.size (w.alloc (.cells #[.int .u8 49,.int .u8 43,.int .u8 50,.int .u8 42,.int .u8 51] 5 z)) X→Below (w.heap.size+1) (w.alloc (.cells #[.int .u8 49,.int .u8 43,.int .u8 50,.int .u8 42,.int .u8 51] 5 z)) X→X.heap[vb]? =some (.cells #[.map none] 103 (0,0))→
   Calls Tryz.prog 24 #[.slice (some ⟨w.heap.size,0,none⟩) 5 5,.pointer (some ⟨vb,0,none⟩)] X fun e w'=>e= .returned (.tuple #[.int .i64 7,.nilIface])∧Below X.heap.size X w'):=Lib.hid (fun z vb X hb0 hb hv=>by
  have hb1:Below w.heap.size w X:=((Below.refl _ _).alloc (Nat.le_refl _) _).trans hb0
  have hsl:=OL w Oj (Ku (by decide)) (by decide) z
  have hsz:(w.alloc (.cells (Oj.map (Value.int .u8)).toArray 5 z)).heap.size=w.heap.size+1:=by simp
  refine (PL _ Oj 40 TD k _ X (fun _=>⟨#[]⟩) YG s hpar (Ku (by decide)) (hsl.below (by rw [hsz];exact hb)) (hs.below hb1) (hT.below hb1) (fun W hW=>PN vb W (jg hv hW)) _ UR (by simp) (Or.inr fun x e h=>by cases h;rfl)).mono ?_
  rintro e w' ⟨he,hb'⟩
  exact ⟨he,hb'⟩)
 have HNW:=Lib.hid FP
 obtain ⟨W0,hW0⟩: ∃W0,W0=w.alloc (.cells #[.int .u8 49,.int .u8 43,.int .u8 50,.int .u8 42,.int .u8 51] 5 (5,6)):=⟨_,rfl⟩
 have hsz:W0.heap.size=w.heap.size+1:=by rw [hW0];simp
 have HB0:Hid (Below w.heap.size w W0):=Lib.hid (by rw [hW0];exact (Below.refl _ _).alloc (Nat.le_refl _) _)
 have HW0:=Lib.hid hW0
 have RX:=Lib.hid hsz
 have kc:=fun (w:World) (C:Array Value) (n c:Nat)=>Lib.run_convert_bytes_const (P:=Tryz.prog) w 22 5 C n c Tryz.underlying22 Tryz.underlying5
 clear hs hT hpar hW0 hsz
 go_enter Tryz.func23,Tryz.ntmps23
 go_wp2_with fail
 rw [←HW0.out]
 refine (HNW.out W0).mono ?_
 rintro e w1 ⟨rfl,hv,hb1⟩
 rw [RX.out] at hv hb1⊢
 have HB1:=Lib.hid (HB0.out.trans (hb1.mono (Nat.le_succ _)))
 have HEC:=Lib.hid (xK.out (5,6) (w.heap.size+1) w1 (by rw [←HW0.out];exact hb1.mono (Nat.le_succ _)) (by rw [←HW0.out];exact hb1) hv)
 clear hv hb1
 go_wp2_with fail
 refine HEC.out.mono ?_
 rintro e w2 ⟨rfl,hb2⟩
 have HB2:=Lib.hid (HB1.out.trans (hb2.mono HB1.out.size))
 clear hb2
 go_wp2_with fail
 go_ret
 exact ⟨rfl,HB2.out⟩
end Go.Proofs.YtacfglopionkfaaGreatDoor
namespace Go.Proofs.YtacfglopionkfaaGreatDoor
set_option maxHeartbeats 8000000
set_option maxRecDepth 100000
open Go.RowKit
def minS:ByteArray:=⟨#[45,57,50,50,51,51,55,50,48,51,54,56,53,52,55,55,53,56,48,56]⟩
theorem xE:(⟨(Lib.itoa (-9223372036854775808)).toArray⟩:ByteArray)=⟨#[45,57,50,50,51,51,55,50,48,51,54,56,53,52,55,55,53,56,48,56]⟩:=by kernel_rfl
def yA (T:ByteArray):Bool:=Lib.hasPrefix T.data.toList [45]
def y9 (T:ByteArray):ByteArray:=if yA T=true then ⟨(Lib.trimPrefix T.data.toList [45]).toArray⟩ else ⟨(Lib.trimPrefix T.data.toList [43]).toArray⟩
def pO (neg:Bool) (l:List Int):Int × Nat:=
 if cN l=0∨cN l<l.length then (0,13) else if cO l=true then (0,6) else (if neg=true then wrap64 (-(cV l)) else cV l,0)
def JL (T:ByteArray):Int × Nat:=if T=minS then (-9223372036854775808,0) else pO (yA T) (bT (y9 T))
def numOf (s:ByteArray):Int × Nat:=if s=⟨#[]⟩ then (0,0) else JL ⟨(Lib.trimS s.data.toList Aj).toArray⟩
theorem yC (s:ByteArray):(⟨(Lib.trimS s.data.toList Aj).toArray⟩:ByteArray).size≤s.size:=by
 show (Lib.trimS s.data.toList Aj).toArray.size≤s.data.size
 have h1:(Lib.trimS s.data.toList Aj).length≤s.data.toList.length:=by
  unfold Lib.trimS Lib.trimLeftS Lib.trimRightS
  refine Nat.le_trans (List.dropWhile_sublist _).length_le ?_
  rw [List.length_reverse]
  refine Nat.le_trans (List.dropWhile_sublist _).length_le ?_
  rw [List.length_reverse]
  exact Nat.le_refl _
 simpa using h1
theorem nV (T:ByteArray) (p:List UInt8):(⟨(Lib.trimPrefix T.data.toList p).toArray⟩:ByteArray).size≤T.size:=by
 show (Lib.trimPrefix T.data.toList p).toArray.size≤T.data.size
 unfold Lib.trimPrefix
 split<;>simp
theorem GI (s:ByteArray) (w:World) (hs:s.size≤9223372036854775807):Calls Tryz.prog 181 #[.string s,.string ⟨#[32,9,10]⟩] w fun e w'=>e= .returned (.string ⟨(Lib.trimS s.data.toList Aj).toArray⟩)∧Below w.heap.size w w':=
 Any.strings_Trim_laid Tryz.lays160 (by kernel_rfl) s ⟨#[32,9,10]⟩ w hs (by decide) (ascii_of_all (by decide))
theorem zZ (s:ByteArray) (w:World) (hs:s.size≤9223372036854775807) (hT:TP w):Calls Tryz.prog 165 #[.string s] w fun e w'=>e= .returned (.tuple #[.int .i64 (numOf s).1,.int .i64 ((numOf s).2:Nat)])∧Below w.heap.size w w':=by
 by_cases hE:s=⟨#[]⟩
 ·subst hE
  exact (qx w).mono (by rintro e w' ⟨rfl,rfl⟩;exact ⟨rfl,Below.refl _ _⟩)
 have tn:=aX (l:=[]) hE
 have RY:Hid (numOf s=JL ⟨(Lib.trimS s.data.toList Aj).toArray⟩):=if_neg hE
 have Gh:=Lib.hid (GI s w hs)
 have hTz:=yC s
 have Bj:Hid (∀X,Below w.heap.size w X→Calls Tryz.prog 99 #[.int .i64 (-9223372036854775808)] X fun e w'=>e= .returned (.string ⟨#[45,57,50,50,51,51,55,50,48,51,54,56,53,52,55,55,53,56,48,56]⟩)∧Below X.heap.size X w'):=Lib.hid (fun X hX=>by
  have h:=qL (-9223372036854775808) X (by omega) (by omega) (hT.below hX)
  rw [xE] at h
  exact h)
 generalize (⟨(Lib.trimS s.data.toList Aj).toArray⟩:ByteArray)=T at*
 generalize numOf s=r at*
 clear hT hE
 by_cases hm:T=minS
 ·have HR:Hid (r=(-9223372036854775808,0)):=RY.out.trans (if_pos hm)
  obtain rfl:T=⟨#[45,57,50,50,51,51,55,50,48,51,54,56,53,52,55,55,53,56,48,56]⟩:=hm
  clear RY
  go_enter Tryz.func165,Tryz.ntmps165
  go_wp2_with fail
  refine Gh.out.mono ?_
  rintro e w1 ⟨rfl,hb1⟩
  have HB1:=Lib.hid hb1
  clear hb1
  go_wp2_with fail
  refine (Bj.out w1 HB1.out).mono ?_
  rintro e w2 ⟨rfl,hb2⟩
  have HB2:=Lib.hid (HB1.out.trans (hb2.mono HB1.out.size))
  clear hb2
  go_wp2_with fail
  go_ret2
  exact ⟨by rw [HR.out];rfl,HB2.out⟩
 have tm:(T.toList==[45,57,50,50,51,51,55,50,48,51,54,56,53,52,55,55,53,56,48,56])=false:=aX (l:=[45,57,50,50,51,51,55,50,48,51,54,56,53,52,55,55,53,56,48,56]) hm
 have HR0:Hid (r=pO (yA T) (bT (y9 T))):=RY.out.trans (if_neg hm)
 have Gl:Hid (∀X,Calls Tryz.prog 182 #[.string T,.string ⟨#[45]⟩] X fun e w'=>e= .returned (.tuple #[.string ⟨(Lib.trimPrefix T.data.toList [45]).toArray⟩,.bool (yA T)])∧w'=X):=Lib.hid (fun X=>Tryz.strings_CutPrefix T ⟨#[45]⟩ X)
 have AY:Hid (∀X,Calls Tryz.prog 183 #[.string T,.string ⟨#[43]⟩] X fun e w'=>e= .returned (.string ⟨(Lib.trimPrefix T.data.toList [43]).toArray⟩)∧w'=X):=Lib.hid (fun X=>Tryz.strings_TrimPrefix T ⟨#[43]⟩ X)
 clear RY hm
 cases hn:yA T
 ·have HR:Hid (r=pO false (bT ⟨(Lib.trimPrefix T.data.toList [43]).toArray⟩)):=HR0.out.trans (by unfold y9;rw [hn];rfl)
  have hUz:=nV T [43]
  rw [hn] at Gl
  clear HR0 hn
  generalize (⟨(Lib.trimPrefix T.data.toList [43]).toArray⟩:ByteArray)=U at*
  go_enter Tryz.func165,Tryz.ntmps165
  go_wp2_with fail
  refine Gh.out.mono ?_
  rintro e w1 ⟨rfl,hb1⟩
  have HB1:=Lib.hid hb1
  clear hb1
  go_wp2_with fail
  refine (Bj.out w1 HB1.out).mono ?_
  rintro e w2 ⟨rfl,hb2⟩
  have HB2:=Lib.hid (HB1.out.trans (hb2.mono HB1.out.size))
  clear hb2
  obtain ⟨cap,W1,hconv,hrow,hbel⟩:=mZ w2 U (by omega)
  have HC:=Lib.hid (uf _ (bT U) W1 hrow)
  have HB3:=Lib.hid (HB2.out.trans (hbel.mono HB2.out.size))
  have HR1:r=(if cN (bT U)=0∨cN (bT U)<U.size then ((0:Int),13) else if cO (bT U)=true then (0,6) else (cV (bT U),0)):=HR.out.trans (by unfold pO;rw [bC];rfl)
  clear HR hrow hbel
  generalize cN (bT U)=n at HR1 HC
  generalize cV (bT U)=x at HR1 HC
  generalize cO (bT U)=o at HR1 HC
  rcases Nat.eq_zero_or_pos n with rfl | h0
  ·have HR2:Hid (r=(0,13)):=HR1.trans (if_pos (Or.inl rfl))
   clear HR1
   go_wp2_with fail
   refine (Gl.out _).mono ?_
   rintro e w3 ⟨rfl,rfl⟩
   go_wp2_with fail
   refine (AY.out _).mono ?_
   rintro e w4 ⟨rfl,rfl⟩
   go_wp2_with fail
   refine HC.out.mono ?_
   rintro e w5 ⟨rfl,rfl⟩
   go_wp2_with fail
   go_ret2
   exact ⟨by rw [HR2.out];rfl,HB3.out⟩
  ·have h0': ¬(n:Int)=0:=by omega
   rcases Nat.lt_or_ge n U.size with h1 | h1
   ·have HR2:Hid (r=(0,13)):=HR1.trans (if_pos (Or.inr h1))
    have h1':(n:Int)<U.size:=by omega
    clear HR1
    go_wp2_with fail
    refine (Gl.out _).mono ?_
    rintro e w3 ⟨rfl,rfl⟩
    go_wp2_with fail
    refine (AY.out _).mono ?_
    rintro e w4 ⟨rfl,rfl⟩
    go_wp2_with fail
    refine HC.out.mono ?_
    rintro e w5 ⟨rfl,rfl⟩
    go_wp2_with fail
    go_ret2
    exact ⟨by rw [HR2.out];rfl,HB3.out⟩
   ·have h1': ¬(n:Int)<U.size:=by omega
    have hif: ¬(n=0∨n<U.size):=by omega
    cases o
    ·have HR2:Hid (r=(x,0)):=HR1.trans ((if_neg hif).trans (if_neg (by decide)))
     clear HR1 hif
     go_wp2_with fail
     refine (Gl.out _).mono ?_
     rintro e w3 ⟨rfl,rfl⟩
     go_wp2_with fail
     refine (AY.out _).mono ?_
     rintro e w4 ⟨rfl,rfl⟩
     go_wp2_with fail
     refine HC.out.mono ?_
     rintro e w5 ⟨rfl,rfl⟩
     go_wp2_with fail
     go_ret2
     exact ⟨by rw [HR2.out];rfl,HB3.out⟩
    ·have HR2:Hid (r=(0,6)):=HR1.trans ((if_neg hif).trans (if_pos rfl))
     clear HR1 hif
     go_wp2_with fail
     refine (Gl.out _).mono ?_
     rintro e w3 ⟨rfl,rfl⟩
     go_wp2_with fail
     refine (AY.out _).mono ?_
     rintro e w4 ⟨rfl,rfl⟩
     go_wp2_with fail
     refine HC.out.mono ?_
     rintro e w5 ⟨rfl,rfl⟩
     go_wp2_with fail
     go_ret2
     exact ⟨by rw [HR2.out];rfl,HB3.out⟩
 ·have HR:Hid (r=pO true (bT ⟨(Lib.trimPrefix T.data.toList [45]).toArray⟩)):=HR0.out.trans (by unfold y9;rw [hn];rfl)
  have hUz:=nV T [45]
  rw [hn] at Gl
  clear HR0 hn
  generalize (⟨(Lib.trimPrefix T.data.toList [45]).toArray⟩:ByteArray)=U at*
  go_enter Tryz.func165,Tryz.ntmps165
  go_wp2_with fail
  refine Gh.out.mono ?_
  rintro e w1 ⟨rfl,hb1⟩
  have HB1:=Lib.hid hb1
  clear hb1
  go_wp2_with fail
  refine (Bj.out w1 HB1.out).mono ?_
  rintro e w2 ⟨rfl,hb2⟩
  have HB2:=Lib.hid (HB1.out.trans (hb2.mono HB1.out.size))
  clear hb2
  obtain ⟨cap,W1,hconv,hrow,hbel⟩:=mZ w2 U (by omega)
  have HC:=Lib.hid (uf _ (bT U) W1 hrow)
  have HB3:=Lib.hid (HB2.out.trans (hbel.mono HB2.out.size))
  have HR1:r=(if cN (bT U)=0∨cN (bT U)<U.size then ((0:Int),13) else if cO (bT U)=true then (0,6) else (wrap64 (-(cV (bT U))),0)):=HR.out.trans (by unfold pO;rw [bC];rfl)
  clear HR hrow hbel
  generalize cN (bT U)=n at HR1 HC
  generalize cV (bT U)=x at HR1 HC
  generalize cO (bT U)=o at HR1 HC
  rcases Nat.eq_zero_or_pos n with rfl | h0
  ·have HR2:Hid (r=(0,13)):=HR1.trans (if_pos (Or.inl rfl))
   clear HR1
   go_wp2_with fail
   refine (Gl.out _).mono ?_
   rintro e w3 ⟨rfl,rfl⟩
   go_wp2_with fail
   refine HC.out.mono ?_
   rintro e w5 ⟨rfl,rfl⟩
   go_wp2_with fail
   go_ret2
   exact ⟨by rw [HR2.out];rfl,HB3.out⟩
  ·have h0': ¬(n:Int)=0:=by omega
   rcases Nat.lt_or_ge n U.size with h1 | h1
   ·have HR2:Hid (r=(0,13)):=HR1.trans (if_pos (Or.inr h1))
    have h1':(n:Int)<U.size:=by omega
    clear HR1
    go_wp2_with fail
    refine (Gl.out _).mono ?_
    rintro e w3 ⟨rfl,rfl⟩
    go_wp2_with fail
    refine HC.out.mono ?_
    rintro e w5 ⟨rfl,rfl⟩
    go_wp2_with fail
    go_ret2
    exact ⟨by rw [HR2.out];rfl,HB3.out⟩
   ·have h1': ¬(n:Int)<U.size:=by omega
    have hif: ¬(n=0∨n<U.size):=by omega
    cases o
    ·have HR2:Hid (r=(wrap64 (-x),0)):=HR1.trans ((if_neg hif).trans (if_neg (by decide)))
     clear HR1 hif
     go_wp2_with fail
     refine (Gl.out _).mono ?_
     rintro e w3 ⟨rfl,rfl⟩
     go_wp2_with fail
     refine HC.out.mono ?_
     rintro e w5 ⟨rfl,rfl⟩
     go_wp2_with fail
     go_ret2
     exact ⟨by rw [HR2.out];rfl,HB3.out⟩
    ·have HR2:Hid (r=(0,6)):=HR1.trans ((if_neg hif).trans (if_pos rfl))
     clear HR1 hif
     go_wp2_with fail
     refine (Gl.out _).mono ?_
     rintro e w3 ⟨rfl,rfl⟩
     go_wp2_with fail
     refine HC.out.mono ?_
     rintro e w5 ⟨rfl,rfl⟩
     go_wp2_with fail
     go_ret2
     exact ⟨by rw [HR2.out];rfl,HB3.out⟩
theorem Uy {T:ByteArray} (c:UInt8) (h: ∀h0:0<T.size,¬(T[0].toNat:Int)=(c.toNat:Int)):Lib.hasPrefix T.data.toList [c]=false∧(⟨(Lib.trimPrefix T.data.toList [c]).toArray⟩:ByteArray)=T:=by
 have hp:Lib.hasPrefix T.data.toList [c]=false:=by
  unfold Lib.hasPrefix
  have hl:T.data.toList.length=T.size:=by rw [Array.length_toList];rfl
  cases hT:T.data.toList with
  | nil=>rfl
  | cons a t=>
   have h0:0<T.size:=by rw [←hl,hT];simp
   have ha:T.data.toList[0]? =some T[0]:=by rw [List.getElem?_eq_getElem (by omega)];rfl
   rw [hT] at ha
   have ha':a=T[0]:=by simpa using ha
   simp only [List.isPrefixOf_cons_cons,List.isPrefixOf_nil_left,Bool.and_true]
   rw [Bool.eq_false_iff]
   intro he
   have:c=a:=by simpa using he
   exact h h0 (by rw [←ha', ←this])
 refine ⟨hp,?_⟩
 unfold Lib.trimPrefix
 rw [hp]
 rfl
theorem O9 {T:ByteArray} (c:UInt8) (h0:0<T.size) (h:(T[0].toNat:Int)=(c.toNat:Int)):Lib.hasPrefix T.data.toList [c]=true∧(⟨(Lib.trimPrefix T.data.toList [c]).toArray⟩:ByteArray)=T.extract 1 T.size:=by
 have hl:T.data.toList.length=T.size:=by rw [Array.length_toList];rfl
 have ha:T.data.toList[0]? =some T[0]:=by rw [List.getElem?_eq_getElem (by omega)];rfl
 have hc:T[0]=c:=UInt8.toNat_inj.1 (by omega)
 cases hT:T.data.toList with
 | nil=>rw [hT] at hl;simp at hl;omega
 | cons a t=>
  rw [hT] at ha hl
  have ha':a=c:=by rw [←hc];simpa using ha
  have hp:Lib.hasPrefix (a::t) [c]=true:=by rw [ha'];simp [Lib.hasPrefix]
  refine ⟨hp,?_⟩
  have he:(T.extract 1 T.size).data.toList=t:=by
   rw [ext_list,hT,List.drop_succ_cons,List.drop_zero,List.take_of_length_le (by simp at hl;omega)]
  unfold Lib.trimPrefix
  rw [hp, ←he]
  rfl
theorem F5 (s:ByteArray) (w:World) (hs:s.size≤9223372036854775807):Calls Tryz.prog 141 #[.string s] w fun e w'=>e= .returned (.tuple #[.int .i64 (numOf s).1,.int .i64 ((numOf s).2:Nat)])∧Below w.heap.size w w':=by
 by_cases hE:s=⟨#[]⟩
 ·subst hE
  have HR:Hid (numOf ⟨#[]⟩=(0,0)):=rfl
  generalize numOf ⟨#[]⟩=r at*
  go_enter Tryz.func141,Tryz.ntmps141
  go_wp2_with fail
  go_ret2
  exact ⟨by rw [HR.out];rfl,Below.refl _ _⟩
 have tn:=aX (l:=[]) hE
 have RY:Hid (numOf s=JL ⟨(Lib.trimS s.data.toList Aj).toArray⟩):=if_neg hE
 have Gh:=Lib.hid (MP s w hs)
 have hTz:=yC s
 generalize (⟨(Lib.trimS s.data.toList Aj).toArray⟩:ByteArray)=T at*
 generalize numOf s=r at*
 clear hE
 by_cases hm:T=minS
 ·have HR:Hid (r=(-9223372036854775808,0)):=RY.out.trans (if_pos hm)
  obtain rfl:T=⟨#[45,57,50,50,51,51,55,50,48,51,54,56,53,52,55,55,53,56,48,56]⟩:=hm
  clear RY
  go_enter Tryz.func141,Tryz.ntmps141
  go_wp2_with fail
  refine Gh.out.mono ?_
  rintro e w1 ⟨rfl,rfl⟩
  go_wp2_with fail
  go_ret2
  exact ⟨by rw [HR.out];rfl,Below.refl _ _⟩
 have tm:(T.toList==[45,57,50,50,51,51,55,50,48,51,54,56,53,52,55,55,53,56,48,56])=false:=aX (l:=[45,57,50,50,51,51,55,50,48,51,54,56,53,52,55,55,53,56,48,56]) hm
 have HR0:Hid (r=pO (yA T) (bT (y9 T))):=RY.out.trans (if_neg hm)
 clear RY hm
 by_cases hE:T=⟨#[]⟩
 ·subst hE
  have HR:Hid (r=pO false (bT ⟨#[]⟩)):=HR0.out
  clear HR0
  obtain ⟨cap,W1,hconv,hrow,hbel⟩:=mZ w (⟨#[]⟩:ByteArray) (by omega)
  have HC:=Lib.hid (iq _ (bT (⟨#[]⟩:ByteArray)) W1 hrow)
  have HB3:=Lib.hid hbel
  have hle:=vg (bT (⟨#[]⟩:ByteArray))
  rw [bC] at hle
  have HR1:r=(if cN (bT (⟨#[]⟩:ByteArray))=0∨cN (bT (⟨#[]⟩:ByteArray))<((⟨#[]⟩:ByteArray)).size then ((0:Int),13) else if cO (bT (⟨#[]⟩:ByteArray))=true then (0,6) else (cV (bT (⟨#[]⟩:ByteArray)),0)):=HR.out.trans (by unfold pO;rw [bC];rfl)
  clear HR hrow hbel
  generalize cN (bT (⟨#[]⟩:ByteArray))=n at HR1 HC hle
  generalize cV (bT (⟨#[]⟩:ByteArray))=x at HR1 HC
  generalize cO (bT (⟨#[]⟩:ByteArray))=o at HR1 HC
  rcases Nat.eq_zero_or_pos n with rfl | h0
  ·have HR2:Hid (r=(0,13)):=HR1.trans (if_pos (Or.inl rfl))
   clear HR1
   go_enter Tryz.func141,Tryz.ntmps141
   go_wp2_with fail
   refine Gh.out.mono ?_
   rintro e w1 ⟨rfl,rfl⟩
   go_upto_region 9 with fail
   go_wp2_with fail
   refine HC.out.mono ?_
   rintro e w5 ⟨rfl,rfl⟩
   go_wp2_with fail
   go_ret2
   exact ⟨by rw [HR2.out];rfl,HB3.out⟩
  ·exact absurd hle (by show¬n≤0;omega)
 have tn2:=aX (l:=[]) hE
 have h00:0<T.size:=Nat.pos_of_ne_zero fun h=>hE (by obtain ⟨a⟩:=T;exact congrArg ByteArray.mk (Array.eq_empty_of_size_eq_zero h))
 have h00':(0:Int)<T.size:=by omega
 have hUz:(T.extract 1 T.size).size=T.size - 1:=by rw [ByteArray.size_extract];omega
 by_cases h45:(T[0].toNat:Int)=45
 ·have hp:=O9 45 h00 h45
  have HR:Hid (r=pO true (bT (T.extract 1 T.size))):=HR0.out.trans (by unfold y9 yA;rw [hp.1,if_pos rfl,hp.2])
  have Nz:((T[0].toNat:Int)==45)=true:=by simpa using h45
  clear HR0 hp
  obtain ⟨cap,W1,hconv,hrow,hbel⟩:=mZ w (T.extract 1 T.size) (by omega)
  have HC:=Lib.hid (iq _ (bT (T.extract 1 T.size)) W1 hrow)
  have HB3:=Lib.hid hbel
  have hle:=vg (bT (T.extract 1 T.size))
  rw [bC] at hle
  have HR1:r=(if cN (bT (T.extract 1 T.size))=0∨cN (bT (T.extract 1 T.size))<((T.extract 1 T.size)).size then ((0:Int),13) else if cO (bT (T.extract 1 T.size))=true then (0,6) else (wrap64 (-(cV (bT (T.extract 1 T.size)))),0)):=HR.out.trans (by unfold pO;rw [bC];rfl)
  clear HR hrow hbel
  generalize cN (bT (T.extract 1 T.size))=n at HR1 HC hle
  generalize cV (bT (T.extract 1 T.size))=x at HR1 HC
  generalize cO (bT (T.extract 1 T.size))=o at HR1 HC
  rcases Nat.eq_zero_or_pos n with rfl | h0
  ·have HR2:Hid (r=(0,13)):=HR1.trans (if_pos (Or.inl rfl))
   clear HR1
   go_enter Tryz.func141,Tryz.ntmps141
   go_wp2_with fail
   refine Gh.out.mono ?_
   rintro e w1 ⟨rfl,rfl⟩
   go_upto_region 9 with fail
   clear Nz hUz
   generalize T.extract 1 T.size=U at*
   go_wp2_with fail
   refine HC.out.mono ?_
   rintro e w5 ⟨rfl,rfl⟩
   go_wp2_with fail
   go_ret2
   exact ⟨by rw [HR2.out];rfl,HB3.out⟩
  ·have h0': ¬(n:Int)=0:=by omega
   rcases Nat.lt_or_ge n ((T.extract 1 T.size)).size with h1 | h1
   ·have HR2:Hid (r=(0,13)):=HR1.trans (if_pos (Or.inr h1))
    have h1': ¬(n:Int)=((T.extract 1 T.size)).size:=by omega
    clear HR1
    go_enter Tryz.func141,Tryz.ntmps141
    go_wp2_with fail
    refine Gh.out.mono ?_
    rintro e w1 ⟨rfl,rfl⟩
    go_upto_region 9 with fail
    clear Nz hUz
    generalize T.extract 1 T.size=U at*
    go_wp2_with fail
    refine HC.out.mono ?_
    rintro e w5 ⟨rfl,rfl⟩
    go_wp2_with fail
    go_ret2
    exact ⟨by rw [HR2.out];rfl,HB3.out⟩
   ·have h1':(n:Int)=((T.extract 1 T.size)).size:=by omega
    have h2': ¬(((T.extract 1 T.size)).size:Int)=0:=by omega
    have hif: ¬(n=0∨n<((T.extract 1 T.size)).size):=by omega
    cases o
    ·have HR2:Hid (r=(wrap64 (-x),0)):=HR1.trans ((if_neg hif).trans (if_neg (by decide)))
     clear HR1 hif
     go_enter Tryz.func141,Tryz.ntmps141
     go_wp2_with fail
     refine Gh.out.mono ?_
     rintro e w1 ⟨rfl,rfl⟩
     go_upto_region 9 with fail
     clear Nz hUz
     generalize T.extract 1 T.size=U at*
     go_wp2_with fail
     refine HC.out.mono ?_
     rintro e w5 ⟨rfl,rfl⟩
     go_wp2_with fail
     go_ret2
     exact ⟨by rw [HR2.out];rfl,HB3.out⟩
    ·have HR2:Hid (r=(0,6)):=HR1.trans ((if_neg hif).trans (if_pos rfl))
     clear HR1 hif
     go_enter Tryz.func141,Tryz.ntmps141
     go_wp2_with fail
     refine Gh.out.mono ?_
     rintro e w1 ⟨rfl,rfl⟩
     go_upto_region 9 with fail
     clear Nz hUz
     generalize T.extract 1 T.size=U at*
     go_wp2_with fail
     refine HC.out.mono ?_
     rintro e w5 ⟨rfl,rfl⟩
     go_wp2_with fail
     go_ret2
     exact ⟨by rw [HR2.out];rfl,HB3.out⟩
 have Nz:((T[0].toNat:Int)==45)=false:=by simpa using h45
 have hq:=Uy (T:=T) 45 (fun _=>h45)
 by_cases h43:(T[0].toNat:Int)=43
 ·have hp:=O9 43 h00 h43
  have HR:Hid (r=pO false (bT (T.extract 1 T.size))):=HR0.out.trans (by unfold y9 yA;rw [hq.1,if_neg (by decide),hp.2])
  have hz5:((T[0].toNat:Int)==43)=true:=by simpa using h43
  clear HR0 hp hq
  obtain ⟨cap,W1,hconv,hrow,hbel⟩:=mZ w (T.extract 1 T.size) (by omega)
  have HC:=Lib.hid (iq _ (bT (T.extract 1 T.size)) W1 hrow)
  have HB3:=Lib.hid hbel
  have hle:=vg (bT (T.extract 1 T.size))
  rw [bC] at hle
  have HR1:r=(if cN (bT (T.extract 1 T.size))=0∨cN (bT (T.extract 1 T.size))<((T.extract 1 T.size)).size then ((0:Int),13) else if cO (bT (T.extract 1 T.size))=true then (0,6) else (cV (bT (T.extract 1 T.size)),0)):=HR.out.trans (by unfold pO;rw [bC];rfl)
  clear HR hrow hbel
  generalize cN (bT (T.extract 1 T.size))=n at HR1 HC hle
  generalize cV (bT (T.extract 1 T.size))=x at HR1 HC
  generalize cO (bT (T.extract 1 T.size))=o at HR1 HC
  rcases Nat.eq_zero_or_pos n with rfl | h0
  ·have HR2:Hid (r=(0,13)):=HR1.trans (if_pos (Or.inl rfl))
   clear HR1
   go_enter Tryz.func141,Tryz.ntmps141
   go_wp2_with fail
   refine Gh.out.mono ?_
   rintro e w1 ⟨rfl,rfl⟩
   go_upto_region 9 with fail
   clear Nz hUz
   generalize T.extract 1 T.size=U at*
   go_wp2_with fail
   refine HC.out.mono ?_
   rintro e w5 ⟨rfl,rfl⟩
   go_wp2_with fail
   go_ret2
   exact ⟨by rw [HR2.out];rfl,HB3.out⟩
  ·have h0': ¬(n:Int)=0:=by omega
   rcases Nat.lt_or_ge n ((T.extract 1 T.size)).size with h1 | h1
   ·have HR2:Hid (r=(0,13)):=HR1.trans (if_pos (Or.inr h1))
    have h1': ¬(n:Int)=((T.extract 1 T.size)).size:=by omega
    clear HR1
    go_enter Tryz.func141,Tryz.ntmps141
    go_wp2_with fail
    refine Gh.out.mono ?_
    rintro e w1 ⟨rfl,rfl⟩
    go_upto_region 9 with fail
    clear Nz hUz
    generalize T.extract 1 T.size=U at*
    go_wp2_with fail
    refine HC.out.mono ?_
    rintro e w5 ⟨rfl,rfl⟩
    go_wp2_with fail
    go_ret2
    exact ⟨by rw [HR2.out];rfl,HB3.out⟩
   ·have h1':(n:Int)=((T.extract 1 T.size)).size:=by omega
    have h2': ¬(((T.extract 1 T.size)).size:Int)=0:=by omega
    have hif: ¬(n=0∨n<((T.extract 1 T.size)).size):=by omega
    cases o
    ·have HR2:Hid (r=(x,0)):=HR1.trans ((if_neg hif).trans (if_neg (by decide)))
     clear HR1 hif
     go_enter Tryz.func141,Tryz.ntmps141
     go_wp2_with fail
     refine Gh.out.mono ?_
     rintro e w1 ⟨rfl,rfl⟩
     go_upto_region 9 with fail
     clear Nz hUz
     generalize T.extract 1 T.size=U at*
     go_wp2_with fail
     refine HC.out.mono ?_
     rintro e w5 ⟨rfl,rfl⟩
     go_wp2_with fail
     go_ret2
     exact ⟨by rw [HR2.out];rfl,HB3.out⟩
    ·have HR2:Hid (r=(0,6)):=HR1.trans ((if_neg hif).trans (if_pos rfl))
     clear HR1 hif
     go_enter Tryz.func141,Tryz.ntmps141
     go_wp2_with fail
     refine Gh.out.mono ?_
     rintro e w1 ⟨rfl,rfl⟩
     go_upto_region 9 with fail
     clear Nz hUz
     generalize T.extract 1 T.size=U at*
     go_wp2_with fail
     refine HC.out.mono ?_
     rintro e w5 ⟨rfl,rfl⟩
     go_wp2_with fail
     go_ret2
     exact ⟨by rw [HR2.out];rfl,HB3.out⟩
 ·have hp:=Uy (T:=T) 43 (fun _=>h43)
  have HR:Hid (r=pO false (bT T)):=HR0.out.trans (by unfold y9 yA;rw [hq.1,if_neg (by decide),hp.2])
  have hz5:((T[0].toNat:Int)==43)=false:=by simpa using h43
  clear HR0 hp hq
  obtain ⟨cap,W1,hconv,hrow,hbel⟩:=mZ w T (by omega)
  have HC:=Lib.hid (iq _ (bT T) W1 hrow)
  have HB3:=Lib.hid hbel
  have hle:=vg (bT T)
  rw [bC] at hle
  have HR1:r=(if cN (bT T)=0∨cN (bT T)<(T).size then ((0:Int),13) else if cO (bT T)=true then (0,6) else (cV (bT T),0)):=HR.out.trans (by unfold pO;rw [bC];rfl)
  clear HR hrow hbel
  generalize cN (bT T)=n at HR1 HC hle
  generalize cV (bT T)=x at HR1 HC
  generalize cO (bT T)=o at HR1 HC
  rcases Nat.eq_zero_or_pos n with rfl | h0
  ·have HR2:Hid (r=(0,13)):=HR1.trans (if_pos (Or.inl rfl))
   clear HR1
   go_enter Tryz.func141,Tryz.ntmps141
   go_wp2_with fail
   refine Gh.out.mono ?_
   rintro e w1 ⟨rfl,rfl⟩
   go_upto_region 9 with fail
   go_wp2_with fail
   refine HC.out.mono ?_
   rintro e w5 ⟨rfl,rfl⟩
   go_wp2_with fail
   go_ret2
   exact ⟨by rw [HR2.out];rfl,HB3.out⟩
  ·have h0': ¬(n:Int)=0:=by omega
   rcases Nat.lt_or_ge n (T).size with h1 | h1
   ·have HR2:Hid (r=(0,13)):=HR1.trans (if_pos (Or.inr h1))
    have h1': ¬(n:Int)=(T).size:=by omega
    clear HR1
    go_enter Tryz.func141,Tryz.ntmps141
    go_wp2_with fail
    refine Gh.out.mono ?_
    rintro e w1 ⟨rfl,rfl⟩
    go_upto_region 9 with fail
    go_wp2_with fail
    refine HC.out.mono ?_
    rintro e w5 ⟨rfl,rfl⟩
    go_wp2_with fail
    go_ret2
    exact ⟨by rw [HR2.out];rfl,HB3.out⟩
   ·have h1':(n:Int)=(T).size:=by omega
    have h2': ¬((T).size:Int)=0:=by omega
    have hif: ¬(n=0∨n<(T).size):=by omega
    cases o
    ·have HR2:Hid (r=(x,0)):=HR1.trans ((if_neg hif).trans (if_neg (by decide)))
     clear HR1 hif
     go_enter Tryz.func141,Tryz.ntmps141
     go_wp2_with fail
     refine Gh.out.mono ?_
     rintro e w1 ⟨rfl,rfl⟩
     go_upto_region 9 with fail
     go_wp2_with fail
     refine HC.out.mono ?_
     rintro e w5 ⟨rfl,rfl⟩
     go_wp2_with fail
     go_ret2
     exact ⟨by rw [HR2.out];rfl,HB3.out⟩
    ·have HR2:Hid (r=(0,6)):=HR1.trans ((if_neg hif).trans (if_pos rfl))
     clear HR1 hif
     go_enter Tryz.func141,Tryz.ntmps141
     go_wp2_with fail
     refine Gh.out.mono ?_
     rintro e w1 ⟨rfl,rfl⟩
     go_upto_region 9 with fail
     go_wp2_with fail
     refine HC.out.mono ?_
     rintro e w5 ⟨rfl,rfl⟩
     go_wp2_with fail
     go_ret2
     exact ⟨by rw [HR2.out];rfl,HB3.out⟩
end Go.Proofs.YtacfglopionkfaaGreatDoor
