import Derived.Test.YtacfglopionkfaaGreatDoorAse2W
import Derived.Test.YtacfglopionkfaaGreatDoorAse2J
import Derived.Test.YtacfglopionkfaaGreatDoorKAb
import Derived.Test.YtacfglopionkfaaGreatDoorRows
import Derived.Test.YtacfglopionkfaaGreatDoorCards
import Derived.Test.YtacfglopionkfaaGreatDoorTie
import Derived.Lay
import Derived.LaidHandle
import Derived.SizedLaws
import Derived.ProofKit
import Derived.LaidMore
import Derived.Stop.Joined
import Derived.Carry
namespace Go.Proofs.YtacfglopionkfaaGreatDoor
open Go.ChangeShapes Go.WideShapes Go.ChangeAt Go.RowKit
set_option maxRecDepth 100000 in
theorem QW (os:Os) (started:os.Started) (H:Type) (enc:TypeId × Value→H):
  ReturnsInHanded {} Tryz.checked os 8 .any (fun w args=>(Rows.arithSetsSpec.pre enc Tryz.prog Tryz.f8 [] false w args∧laidMetH Tryz.prog Rows.arithSetsRow.laid w)∧sizedMet enc Tryz.prog Tryz.f8 (OpenSpec.ofChange Rows.arithSetsSpec) false w args)
   (Rows.arithSetsSpec.post enc Tryz.prog Tryz.f8 false true false false):=by
 refine returnsInHanded_of_change_and (C:=Tryz.checked) (X:=fun w _=>laidMetH Tryz.prog Rows.arithSetsRow.laid w) (fun _ _ _ hh h=>h.of_heap hh) V4 started (by kernel_rfl) Tryz.func8
  (ChangeSpec.witness_shaped (enc:=enc) (C:=Tryz.checked) (os:=os) (X:=fun w _=>laidMetH Tryz.prog Rows.arithSetsRow.laid w) false (sW os) #[.string ⟨#[]⟩,.slice none 0 0,.slice none 0 0] 8 ((World.layVars_os _ _ _).trans rfl) (World.shaped_of_ZipB (Ya os) (X8 os)) (XZ os) (XY enc os) (XW enc os) (VD os _)) ?_
 intro W base args ds gs before hval0 hW _ hsz0 hL _
 have hval: ∀(j:Nat) t v,Tryz.f8.params[j]? =some t→args[j]? =some v→Value.okWide Tryz.prog W .any base t v:=hval0
 have hsz:(DataW.weightsEach Tryz.prog (Tryz.f8.params.toList++Rows.arithSetsSpec.plain.varTypes Tryz.prog) (ds++gs)).all (· ≤reachBytes)=true:=hsz0
 clear hsz0
 have hW':=hW
 obtain ⟨p,q,hA0,hV,rfl,hfz,hnd⟩:=hW
 have hA:DataW.TrodAll enc Tryz.prog W 0 (fun _=>true) true Tryz.f8.params.toList args.toList ds p:=hA0
 rw [Tryz.params8] at hA hval hsz
 obtain ⟨v0,v1,v2,d0,d1,d2,p0,p1,p2,rfl,rfl,rfl,h0,h1,h2⟩:=trodAll_three hA
 obtain ⟨rfl,rfl⟩:=trodVars_none hV
 clear hA0 hval0
 simp only [List.append_nil] at hW'
 have hlt: ∀x∈p0++(p1++(p2)),x.block<W.heap.size:=fun x hx=>by first | simpa using hW'.lt x hx | simpa using hW'.lt x (by simpa using hx)
 refine (Vz W base v0 v1 v2 h0 h1 h2 (hval 0 9 v0 rfl rfl) (hval 1 22 v1 rfl rfl) (hval 2 38 v2 rfl rfl) hsz hL).mono fun e W' ⟨he,hb⟩=>?_
 subst he
 have e1:Rows.arithSetsSpec.fn H ([d0,d1,d2]++[])={results:=[.lit (.bool true)],args:=[d0,d1,d2]}:=by simp [Rows.arithSetsSpec]
 refine ⟨_,rfl,_,_,_,[],p0++(p1++(p2)),[],hW',?_,?_,?_,hb.frame _,fun h=>by cases h⟩
 ·rw [e1];exact trodAll_mk1 (shut_bool Tryz.underlying4 true)
 ·rw [e1];exact trodAll_mk3 (Below.trod Ah (by kernel_rfl) (of_decide_eq_true (by kernel_rfl)) h0 hb (fun x hx=>hlt x (by simp [hx]))) (Below.trod Ah (by kernel_rfl) (of_decide_eq_true (by kernel_rfl)) h1 hb (fun x hx=>hlt x (by simp [hx]))) (Below.trod Ah (by kernel_rfl) (of_decide_eq_true (by kernel_rfl)) h2 hb (fun x hx=>hlt x (by simp [hx])))
 ·rw [e1];rfl
theorem Vy:Rows.ArithSetsSaid:=
 OpenClaim.holds_of_wide 8 Tryz.f8 rfl rfl rfl rfl rfl rfl rfl ⟨rfl,rfl,rfl,rfl,rfl⟩ rfl rfl rfl rfl rfl (by kernel_rfl) Tryz.func8 QX
  (of_decide_eq_true (by kernel_rfl)) (by unfold Func.isWrapper;rw [if_neg (of_decide_eq_false (by kernel_rfl))];exact ⟨rfl,rfl⟩)
  (fun os started H enc _=>QW os started H enc)
theorem arithSets_holds:Rows.ArithSetsCardSaid:=
 Claim7.holds_tied_plain_at .later [] Rows.arithSetsCard.laidKinds true Rows.arithSetsCard.stood.harness Rows.arithSetsCard.stood.looks
  Vy (fun _ h=>by cases h) (by kernel_rfl) (fun _ h=>by cases h) arithSets_row_tie rfl ⟨rfl,rfl⟩ (by kernel_rfl) rfl
  (fun f fn hf hfn=>by
   obtain rfl:f=8:=Option.some.inj ((show Tryz.prog.funcNamed "pidgin/pidginlaw4.ArithSets" =some 8 by kernel_rfl).symm.trans hf) |>.symm
   obtain rfl:fn=Tryz.f8:=(Option.some.inj (Tryz.func8.symm.trans hfn)).symm
   exact ⟨by kernel_rfl,fun j t ht=>by
    rw [Tryz.params8] at ht
    have hm:t∈[9,22,38]:=by simpa using Array.mem_of_getElem? ht
    have hall:([9,22,38].all fun u=> !Tryz.prog.wantsStandIn u)=true:=by kernel_rfl
    exact (show Tryz.prog.wantsStandIn t=false by simpa using List.all_eq_true.1 hall t hm)⟩)
  (by kernel_rfl)
#print axioms arithSets_holds
end Go.Proofs.YtacfglopionkfaaGreatDoor
