import Derived.Test.YtacfglopionkfaaGreatDoorAru2W
import Derived.Test.YtacfglopionkfaaGreatDoorAru2J
import Derived.Test.YtacfglopionkfaaGreatDoorKAb
import Derived.Test.YtacfglopionkfaaGreatDoorRows
import Derived.Test.YtacfglopionkfaaGreatDoorCards
import Derived.Test.YtacfglopionkfaaGreatDoorTie
import Derived.Lay
import Derived.LaidHandle
import Derived.SizedLaws
import Derived.ProofKit
import Derived.LaidMore
import Derived.Stop.Joined
import Derived.Carry
namespace Go.Proofs.YtacfglopionkfaaGreatDoor
open Go.ChangeShapes Go.WideShapes Go.ChangeAt Go.RowKit
set_option maxRecDepth 100000 in
theorem QY (os:Os) (started:os.Started) (H:Type) (enc:TypeId × Value→H):
  ReturnsInHanded {} Tryz.checked os 5 .any (fun w args=>(Rows.arithRunsSpec.pre enc Tryz.prog Tryz.f5 [] false w args∧laidMetH Tryz.prog Rows.arithRunsRow.laid w)∧sizedMet enc Tryz.prog Tryz.f5 (OpenSpec.ofChange Rows.arithRunsSpec) false w args)
   (Rows.arithRunsSpec.post enc Tryz.prog Tryz.f5 false true false false):=by
 refine returnsInHanded_of_change_and (C:=Tryz.checked) (X:=fun w _=>laidMetH Tryz.prog Rows.arithRunsRow.laid w) (fun _ _ _ hh h=>h.of_heap hh) Wq started (by kernel_rfl) Tryz.func5
  (ChangeSpec.witness_shaped (enc:=enc) (C:=Tryz.checked) (os:=os) (X:=fun w _=>laidMetH Tryz.prog Rows.arithRunsRow.laid w) false (sZ os) #[.slice none 0 0,.slice none 0 0] 8 ((World.layVars_os _ _ _).trans rfl) (World.shaped_of_ZipB (Yk os) (Yj os)) (Yi os) (Yh enc os) (Yg enc os) (VH os _)) ?_
 intro W base args ds gs before hval0 hW _ hsz0 hL _
 have hval: ∀(j:Nat) t v,Tryz.f5.params[j]? =some t→args[j]? =some v→Value.okWide Tryz.prog W .any base t v:=hval0
 have hsz:(DataW.weightsEach Tryz.prog (Tryz.f5.params.toList++Rows.arithRunsSpec.plain.varTypes Tryz.prog) (ds++gs)).all (· ≤reachBytes)=true:=hsz0
 clear hsz0
 have hW':=hW
 obtain ⟨p,q,hA0,hV,rfl,hfz,hnd⟩:=hW
 have hA:DataW.TrodAll enc Tryz.prog W 0 (fun _=>true) true Tryz.f5.params.toList args.toList ds p:=hA0
 rw [Tryz.params5] at hA hval hsz
 obtain ⟨v0,v1,d0,d1,p0,p1,rfl,rfl,rfl,h0,h1⟩:=trodAll_two hA
 obtain ⟨rfl,rfl⟩:=trodVars_none hV
 clear hA0 hval0
 simp only [List.append_nil] at hW'
 have hlt: ∀x∈p0++(p1),x.block<W.heap.size:=fun x hx=>by first | simpa using hW'.lt x hx | simpa using hW'.lt x (by simpa using hx)
 refine (VF W base v0 v1 h0 h1 (hval 0 22 v0 rfl rfl) (hval 1 38 v1 rfl rfl) hsz hL).mono fun e W' ⟨he,hb⟩=>?_
 subst he
 have e1:Rows.arithRunsSpec.fn H ([d0,d1]++[])={results:=[.lit (.bool true)],args:=[d0,d1]}:=by simp [Rows.arithRunsSpec]
 refine ⟨_,rfl,_,_,_,[],p0++(p1),[],hW',?_,?_,?_,hb.frame _,fun h=>by cases h⟩
 ·rw [e1];exact trodAll_mk1 (shut_bool Tryz.underlying4 true)
 ·rw [e1];exact trodAll_mk2 (Below.trod FV (by kernel_rfl) (of_decide_eq_true (by kernel_rfl)) h0 hb (fun x hx=>hlt x (by simp [hx]))) (Below.trod FV (by kernel_rfl) (of_decide_eq_true (by kernel_rfl)) h1 hb (fun x hx=>hlt x (by simp [hx])))
 ·rw [e1];rfl
theorem VE:Rows.ArithRunsSaid:=
 OpenClaim.holds_of_wide 5 Tryz.f5 rfl rfl rfl rfl rfl rfl rfl ⟨rfl,rfl,rfl,rfl,rfl⟩ rfl rfl rfl rfl rfl (by kernel_rfl) Tryz.func5 QZ
  (of_decide_eq_true (by kernel_rfl)) (by unfold Func.isWrapper;rw [if_neg (of_decide_eq_false (by kernel_rfl))];exact ⟨rfl,rfl⟩)
  (fun os started H enc _=>QY os started H enc)
theorem arithRuns_holds:Rows.ArithRunsCardSaid:=
 Claim7.holds_tied_plain_at .later [] Rows.arithRunsCard.laidKinds true Rows.arithRunsCard.stood.harness Rows.arithRunsCard.stood.looks
  VE (fun _ h=>by cases h) (by kernel_rfl) (fun _ h=>by cases h) arithRuns_row_tie rfl ⟨rfl,rfl⟩ (by kernel_rfl) rfl
  (fun f fn hf hfn=>by
   obtain rfl:f=5:=Option.some.inj ((show Tryz.prog.funcNamed "pidgin/pidginlaw4.ArithRuns" =some 5 by kernel_rfl).symm.trans hf) |>.symm
   obtain rfl:fn=Tryz.f5:=(Option.some.inj (Tryz.func5.symm.trans hfn)).symm
   exact ⟨by kernel_rfl,fun j t ht=>by
    rw [Tryz.params5] at ht
    have hm:t∈[22,38]:=by simpa using Array.mem_of_getElem? ht
    have hall:([22,38].all fun u=> !Tryz.prog.wantsStandIn u)=true:=by kernel_rfl
    exact (show Tryz.prog.wantsStandIn t=false by simpa using List.all_eq_true.1 hall t hm)⟩)
  (by kernel_rfl)
#print axioms arithRuns_holds
end Go.Proofs.YtacfglopionkfaaGreatDoor
