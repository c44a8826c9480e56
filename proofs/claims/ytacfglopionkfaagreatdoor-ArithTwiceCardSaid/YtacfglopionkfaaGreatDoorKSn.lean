import Derived.Test.YtacfglopionkfaaGreatDoorRows
import Derived.LaidMore
import Derived.Stop.Joined
import Derived.Stop.LaidErr
import Derived.Test.YtacfglopionkfaaGreatDoorKTx
import Derived.Test.YtacfglopionkfaaGreatDoorFaTell
namespace Go.Proofs.YtacfglopionkfaaGreatDoor
open Go.RowKit Go.Extern.Stop Go.Stop Go.Extern
theorem Tryz.star: "*" ++ "errors.errorString" = "*errors.errorString" :=by decide
theorem Tryz.rowE (u:TypeId) (h:Tryz.prog.typeName? 3 u=some "*errors.errorString"):u=276:=
 typeName_ptr_named (nm:= "errors.errorString") (by rw [Tryz.star];kernel_rfl) (by kernel_rfl) (by decide) u (by rw [Tryz.star];exact h)
theorem Tryz.cellsE:Tryz.prog.cellsOf 294=1:=by kernel_rfl
theorem Tryz.cellsS:Tryz.prog.cellsOf 9=1:=by kernel_rfl
def sd (x:String × List UInt8):String × DataW Unit:=(x.1,.iface "*errors.errorString" (.ptr (.agg [.lit (.string x.2)])))
set_option maxRecDepth 100000 in
theorem BH {W:World} {all:List MemPlace} (hrows: ∀b off,MemPlace.cell b off∈all→
      (∃c t,W.heap[b]? =some (.cells c t (0,0)))∧ ∀u v,W.cell? ⟨b,off,none⟩=some (.iface u v)→Value.okWide Tryz.prog W .any 0 u v):
  ∀ (L:List (String × List UInt8)),(∀x∈L,∃g,Tryz.prog.globalNamed x.1=some g∧(Tryz.prog.globals[g]?).map (·.type)=some 25)→ ∀(ps:List MemPlace),DataW.LaidVars Tryz.prog W (L.map sd) ps→(∀q∈ps,q∈all)→ps.Nodup→
   ∃sl:List Addr,sl.length=L.length∧(sl.map fun a=>MemPlace.cell a.block a.off).Nodup∧(∀a∈sl,MemPlace.cell a.block a.off∈ps)∧
    ∀(i:Nat) (x:String × List UInt8),L[i]? =some x→ ∃a,sl[i]? =some a∧W.var? Tryz.prog x.1=some #[.iface 276 (.pointer (some a))]
 | [],_,_,_,_,_=>⟨[],rfl,by simp,by simp,by simp⟩
 | x::L,hL,ps,h,hin,hnd=>by
  obtain ⟨g0,t0,cs0,f0,p0,q0,hg0,ht0,hv0,hd0,hq0,e0⟩:=h
  obtain ⟨g,hg,hgt⟩:=hL x (by simp)
  obtain rfl:=Option.some.inj (hg.symm.trans hg0)
  obtain rfl:=Option.some.inj (hgt.symm.trans ht0)
  subst e0
  obtain ⟨l0⟩:=cs0
  have ok0: ∀u v,l0=[.iface u v]→Value.okWide Tryz.prog W .any 0 u v:=fun u v e=>by
   subst e
   exact (hrows g 0 (hin _ (by simp [MemPlace.row]))).2 u v (by simpa using World.var?_cell hg hv0 0)
  obtain ⟨a0,s0,rfl,hc0,hs0,hz0,rfl⟩:=errorString_of_trod Tryz.underlying25 Tryz.rowE Tryz.underlying276 Tryz.underlying294 rfl rfl Tryz.underlying9 Tryz.cellsE Tryz.cellsS hd0 ok0
  have hnq:q0.Nodup:=(List.nodup_append.1 hnd).2.1
  obtain ⟨sl,hlen,hn,hmem,hall⟩:=BH hrows L (fun y hy=>hL y (by simp [hy])) q0 hq0 (fun q hq=>hin q (by simp [hq])) hnq
  refine ⟨a0::sl,by simp [hlen],?_,?_,?_⟩
  ·simp only [List.map_cons,List.nodup_cons]
   refine ⟨fun hm=>?_,hn⟩
   obtain ⟨b,hb,he⟩:=List.mem_map.1 hm
   have h1:=hmem b hb
   rw [he] at h1
   exact (List.nodup_append.1 hnd).2.2 (MemPlace.cell a0.block a0.off) (by simp [MemPlace.row]) _ h1 rfl
  ·intro a ha
   rcases List.mem_cons.1 ha with rfl | ha
   ·simp [MemPlace.row]
   ·have:=hmem a ha;simp [this]
  ·intro i y hy
   cases i with
   | zero=>simp at hy;subst hy;exact ⟨a0,rfl,hv0⟩
   | succ i=>simpa using hall i y (by simpa using hy)
def gI:List (String × List UInt8):=[("pidgin/fault.errArg",[97,114,103,117,109,101,110,116]),("pidgin/fault.errLong",[108,111,110,103]),("pidgin/fault.errSyntax",[115,121,110,116,97,120]),("pidgin/fault.errDeep",[100,101,101,112]),("pidgin/fault.errMany",[109,97,110,121]),("pidgin/fault.errNumber",[110,117,109,98,101,114]),("pidgin/fault.errRange",[114,97,110,103,101]),("pidgin/fault.errBracket",[98,114,97,99,107,101,116]),("pidgin/fault.errGroup",[103,114,111,117,112]),("pidgin/fault.errEscape",[101,115,99,97,112,101]),("pidgin/fault.errStates",[115,116,97,116,101,115]),("pidgin/fault.errDivide",[100,105,118,105,100,101]),("pidgin/fault.errValue",[118,97,108,117,101]),("pidgin/fault.errOperand",[111,112,101,114,97,110,100]),("pidgin/fault.errName",[110,97,109,101]),("pidgin/fault.errFile",[102,105,108,101]),("pidgin/fault.errDir",[100,105,114]),("pidgin/fault.errExists",[101,120,105,115,116,115]),("pidgin/fault.errFull",[102,117,108,108]),("pidgin/fault.errLabel",[108,97,98,101,108]),("pidgin/fault.errFuel",[102,117,101,108])]
theorem zW: ∀x∈gI,∃g,Tryz.prog.globalNamed x.1=some g∧(Tryz.prog.globals[g]?).map (·.type)=some 25:=by
 have h:(gI.all fun x=>(match Tryz.prog.globalNamed x.1 with | some g=>(Tryz.prog.globals[g]?).map (·.type)==some 25 | none=>false))=true:=by kernel_rfl
 intro x hx
 have:=List.all_eq_true.1 h x hx
 cases hg:Tryz.prog.globalNamed x.1 with
 | none=>rw [hg] at this;exact absurd this (by simp)
 | some g=>rw [hg] at this;exact ⟨g,rfl,by simpa using this⟩
theorem CJ:(gI.map fun x=>Tryz.prog.globalNamed x.1)=(List.range 21).map some:=by kernel_rfl
end Go.Proofs.YtacfglopionkfaaGreatDoor
namespace Go.Proofs.YtacfglopionkfaaGreatDoor
open Go.RowKit Go.Extern.Stop Go.Stop Go.Extern
theorem Tryz.etn2:Tryz.prog.globalNamed "errors.errorType" =some 21:=by kernel_rfl
theorem Tryz.rtn2:(Tryz.prog.cutTypes.find? (·.1== "internal/reflectlite.rtype")).map (·.2)=some 201:=by kernel_rfl
theorem Tryz.tys2:Tryz.prog.types.size=306:=by kernel_rfl
theorem Tryz.oneRow2:((List.range 306).filter fun t=>Tryz.prog.rowNamed t [101,114,114,111,114])=[25]:=by kernel_rfl
theorem Uk {W:World} (hm:laidMet Tryz.prog (gI.map sd) W)
  (Oi:W.cell? ⟨21,0,none⟩=some (.iface 201 (.agg #[.pointer (some ⟨28,25,none⟩)]))): ∃s,o7 W s:=by
 obtain ⟨ps,hv,hnd,hrows⟩:=hm
 obtain ⟨sl,hlen,hn,hmem,hall⟩:=BH hrows gI zW ps hv (fun _ hq=>hq) hnd
 have hl:sl.length=21:=hlen
 have hvar: ∀k,1≤k→k≤21→W.cell? ⟨k - 1,0,none⟩=some (.iface 276 (.pointer (some (sl.getD (k - 1) ⟨0,0,none⟩)))):=by
  intro k h1 h2
  have hx:gI[k - 1]? =some (gI[k - 1]'(by show k - 1<21;omega)):=List.getElem?_eq_getElem _
  obtain ⟨a,ha,hva⟩:=hall (k - 1) _ hx
  have hg:Tryz.prog.globalNamed (gI[k - 1]'(by show k - 1<21;omega)).1=some (k - 1):=by
   have:=congrArg (fun l=>l[k - 1]?) CJ
   simp only [List.getElem?_map,hx,Option.map_some] at this
   rw [List.getElem?_range (by omega)] at this
   first | simpa using this | (simp at this;rw [this];congr 1;omega)
  have:=World.var?_cell hg hva 0
  rw [this,List.getD_eq_getElem?_getD,ha]
  rfl
 refine ⟨fun k=>sl.getD (k - 1) ⟨0,0,none⟩,hvar,?_,?_,?_,Oi⟩
 ·have:=lt_of_cell Oi;have h21:=lt_of_cell (hvar 21 (by omega) (by omega));simp at this h21;omega
 ·intro k h1 h2
  have hk:k - 1<sl.length:=by omega
  have hmk:=hmem (sl[k - 1]) (List.getElem_mem hk)
  obtain ⟨c,t,hb⟩:=(hrows _ _ hmk).1
  exact ⟨c,t,by rw [List.getD_eq_getElem?_getD,List.getElem?_eq_getElem hk];exact hb⟩
 ·intro j k j1 j2 k1 k2 he
  have hj:j - 1<sl.length:=by omega
  have hk:k - 1<sl.length:=by omega
  simp only [List.getD_eq_getElem?_getD,List.getElem?_eq_getElem hj,List.getElem?_eq_getElem hk,Option.getD_some] at he
  have:=(List.getElem_inj (h₀:=by simpa using hj) (h₁:=by simpa using hk) hn).1 (by simp [he])
  omega
theorem o7.er {W:World} {s:Nat→Addr} (h:o7 W s):Er W s:=⟨h.var,by have:=h.low;omega⟩
theorem Dc {W:World} {L:List (String × DataW Unit)} (hL: ∃x y,L.filter (fun x=>x.2.handleName?.isNone)=x::y::("internal/strconv.uint64pow10",Lib.tabData .u64 Lib.pow10Tab)::gI.map sd)
  (hH:L.filter (fun x=>x.2.handleName?.isSome)=[("errors.errorType",.iface "internal/reflectlite.rtype" (.agg [.ptr (.lit (.string [101,114,114,111,114]))]))])
  (h:laidMetH Tryz.prog L W): ∃s,o7 W s∧TP W:=by
 unfold laidMetH at h
 rw [hH] at h
 obtain ⟨hm,hh⟩:=h
 obtain ⟨x,y,hL⟩:=hL
 rw [hL] at hm
 have h2:=laidMet.tail (laidMet.tail hm)
 have t2:=Lib.tabIs_of_head (g:=23) (t:=260) (e:=128) (n:=20) (by kernel_rfl) (by kernel_rfl) (by kernel_rfl) (by kernel_rfl) (by kernel_rfl) (by kernel_rfl) h2
 obtain ⟨name,u,ty,e1,e2,e3,e4,e5⟩:=hh _ (List.mem_singleton.2 rfl)
 have en:name=[101,114,114,111,114]:=(Option.some.inj e1).symm
 subst en
 obtain rfl:=Option.some.inj (Tryz.rtn2.symm.trans e2)
 have hmt:ty∈(List.range 306).filter fun t=>Tryz.prog.rowNamed t [101,114,114,111,114]:=List.mem_filter.2 ⟨List.mem_range.2 (by rw [←Tryz.tys2];exact e3),e4⟩
 rw [Tryz.oneRow2] at hmt
 obtain rfl:=List.mem_singleton.1 hmt
 have hth:typeHandle Tryz.prog 25= .pointer (some ⟨28,25,none⟩):=by kernel_rfl
 rw [hth] at e5
 have Oi:W.cell? ⟨21,0,none⟩=some (.iface 201 (.agg #[.pointer (some ⟨28,25,none⟩)])):=by simpa using World.var?_cell Tryz.etn2 e5 0
 obtain ⟨s,hs⟩:=Uk (laidMet.tail h2) Oi
 exact ⟨s,hs,t2⟩
end Go.Proofs.YtacfglopionkfaaGreatDoor
namespace Go.Proofs.YtacfglopionkfaaGreatDoor
open Go.RowKit Go.Extern.Stop Go.Stop Go.Extern
theorem KH (s:Nat→Addr) (c p:Nat) (v:Value) (w:World) (hs:o7 w s) (h:ErrAt w s c p v) (h1:1≤c) (h2:c≤21):
  Calls Tryz.prog 11 #[v] w fun e w'=>e= .returned (.agg #[.int .i64 c,.int .i64 p,.int .i64 1])∧Below w.heap.size w w':=by
 have:=KI [(true,1),(false,(p:Int))] v (s c) s c w hs (hs.rt c h1 h2) h
 simpa [aO] using this
end Go.Proofs.YtacfglopionkfaaGreatDoor
