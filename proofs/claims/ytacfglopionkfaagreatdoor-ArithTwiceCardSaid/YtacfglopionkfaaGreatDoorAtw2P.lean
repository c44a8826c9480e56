/- Compiled once and run often, the same each time: the law ArithTwice returns true. No condition but that the listed variables hold what the program lays. -/
import Derived.Test.YtacfglopionkfaaGreatDoorAtw2W
import Derived.Test.YtacfglopionkfaaGreatDoorAtw2J
import Derived.Test.YtacfglopionkfaaGreatDoorKAb
import Derived.Test.YtacfglopionkfaaGreatDoorTie
namespace Go.Proofs.YtacfglopionkfaaGreatDoor
open Go.ChangeShapes Go.WideShapes Go.ChangeAt Go.RowKit
set_option maxRecDepth 100000 in
theorem Qk (os:Os) (started:os.Started) (H:Type) (enc:TypeId × Value→H):
  ReturnsInHanded {} Tryz.checked os 6 .any (fun w args=>(Rows.arithTwiceSpec.pre enc Tryz.prog Tryz.f6 [] false w args∧laidMetH Tryz.prog Rows.arithTwiceRow.laid w)∧sizedMet enc Tryz.prog Tryz.f6 (OpenSpec.ofChange Rows.arithTwiceSpec) false w args)
   (Rows.arithTwiceSpec.post enc Tryz.prog Tryz.f6 false true false false):=by
 refine returnsInHanded_of_change_and (C:=Tryz.checked) (X:=fun w _=>laidMetH Tryz.prog Rows.arithTwiceRow.laid w) (fun _ _ _ hh h=>h.of_heap hh) Vo started (by kernel_rfl) Tryz.func6
  (ChangeSpec.witness_shaped (enc:=enc) (C:=Tryz.checked) (os:=os) (X:=fun w _=>laidMetH Tryz.prog Rows.arithTwiceRow.laid w) false (qR os) #[.slice none 0 0,.slice none 0 0] 8 ((World.layVars_os _ _ _).trans rfl) (World.shaped_of_ZipB (VU os) (VT os)) (VR os) (VQ enc os) (VP enc os) (RS os _)) ?_
 intro W base args ds gs before hval0 hW _ hsz0 hL _
 have hval: ∀(j:Nat) t v,Tryz.f6.params[j]? =some t→args[j]? =some v→Value.okWide Tryz.prog W .any base t v:=hval0
 have hsz:(DataW.weightsEach Tryz.prog (Tryz.f6.params.toList++Rows.arithTwiceSpec.plain.varTypes Tryz.prog) (ds++gs)).all (· ≤reachBytes)=true:=hsz0
 clear hsz0
 have hW':=hW
 obtain ⟨p,q,hA0,hV,rfl,hfz,hnd⟩:=hW
 have hA:DataW.TrodAll enc Tryz.prog W 0 (fun _=>true) true Tryz.f6.params.toList args.toList ds p:=hA0
 rw [Tryz.params6] at hA hval hsz
 obtain ⟨v0,v1,d0,d1,p0,p1,rfl,rfl,rfl,h0,h1⟩:=trodAll_two hA
 obtain ⟨rfl,rfl⟩:=trodVars_none hV
 clear hA0 hval0
 simp only [List.append_nil] at hW'
 have hlt: ∀x∈p0++(p1),x.block<W.heap.size:=fun x hx=>by first | simpa using hW'.lt x hx | simpa using hW'.lt x (by simpa using hx)
 refine (RP W base v0 v1 h0 h1 (hval 0 22 v0 rfl rfl) (hval 1 38 v1 rfl rfl) hsz hL).mono fun e W' ⟨he,hb⟩=>?_
 subst he
 have e1:Rows.arithTwiceSpec.fn H ([d0,d1]++[])={results:=[.lit (.bool true)],args:=[d0,d1]}:=by simp [Rows.arithTwiceSpec]
 refine ⟨_,rfl,_,_,_,[],p0++(p1),[],hW',?_,?_,?_,hb.frame _,fun h=>by cases h⟩
 ·rw [e1];exact trodAll_mk1 (shut_bool Tryz.underlying4 true)
 ·rw [e1];exact trodAll_mk2 (Below.trod E5 (by kernel_rfl) (of_decide_eq_true (by kernel_rfl)) h0 hb (fun x hx=>hlt x (by simp [hx]))) (Below.trod E5 (by kernel_rfl) (of_decide_eq_true (by kernel_rfl)) h1 hb (fun x hx=>hlt x (by simp [hx])))
 ·rw [e1];rfl
theorem RN:Rows.ArithTwiceSaid:=
 OpenClaim.holds_of_wide 6 Tryz.f6 rfl rfl rfl rfl rfl rfl rfl ⟨rfl,rfl,rfl,rfl,rfl⟩ rfl rfl rfl rfl rfl (by kernel_rfl) Tryz.func6 Ql
  (of_decide_eq_true (by kernel_rfl)) (by unfold Func.isWrapper;rw [if_neg (of_decide_eq_false (by kernel_rfl))];exact ⟨rfl,rfl⟩)
  (fun os started H enc _=>Qk os started H enc)
theorem arithTwice_holds:Rows.ArithTwiceCardSaid:=
 Claim7.holds_tied_plain_at .later [] Rows.arithTwiceCard.laidKinds true Rows.arithTwiceCard.stood.harness Rows.arithTwiceCard.stood.looks
  RN (fun _ h=>by cases h) (by kernel_rfl) (fun _ h=>by cases h) arithTwice_row_tie rfl ⟨rfl,rfl⟩ (by kernel_rfl) rfl
  (fun f fn hf hfn=>by
   obtain rfl:f=6:=Option.some.inj ((show Tryz.prog.funcNamed "pidgin/pidginlaw4.ArithTwice" =some 6 by kernel_rfl).symm.trans hf) |>.symm
   obtain rfl:fn=Tryz.f6:=(Option.some.inj (Tryz.func6.symm.trans hfn)).symm
   exact ⟨by kernel_rfl,fun j t ht=>by
    rw [Tryz.params6] at ht
    have hm:t∈[22,38]:=by simpa using Array.mem_of_getElem? ht
    have hall:([22,38].all fun u=> !Tryz.prog.wantsStandIn u)=true:=by kernel_rfl
    exact (show Tryz.prog.wantsStandIn t=false by simpa using List.all_eq_true.1 hall t hm)⟩)
  (by kernel_rfl)
#print axioms arithTwice_holds
end Go.Proofs.YtacfglopionkfaaGreatDoor
