import Derived.Test.YtacfglopionkfaaGreatDoorArTokAt
namespace Go.Proofs.YtacfglopionkfaaGreatDoor
open Go.RowKit
theorem CB (v:Value) (l:List Int) (p:Nat) (w:World) (hs:Sl w v l) (hp:p≤l.length):
  Calls Tryz.prog 72 #[v,.int .i64 p] w fun e w'=>e= .returned (tok l p).v∧Below w.heap.size w w':=by
 obtain ⟨hy,hl,⟨rfl,a,cap,rfl⟩ | ⟨b,o,cap,rfl,hcl,hcm,hr⟩⟩:=hs
 ·obtain rfl:p=0:=by simpa using hp
  exact zU a cap w
 ·exact xX b o cap l p w hl hcl hcm hy hr hp
theorem ni (v:Value) (l:List Int) (p:Nat) (t:Tk) (ht:tok l p=t) (w:World) (hs:Sl w v l) (hp:p≤l.length):
  Calls Tryz.prog 72 #[v,.int .i64 p] w fun e w'=>e= .returned (.agg #[.int .i64 t.kind,.int .i64 t.start,.int .i64 t.stop,.string t.text,.int .i64 t.num,.bool t.over])∧Below w.heap.size w w':=by
 subst ht
 exact CB v l p w hs hp
theorem Ee {l:List Int} {p:Nat} (h: ¬p<l.length):gG l p=false:=by unfold gG;simp [h]
theorem LW {l:List Int} {p:Nat} (h:p<l.length) (hn:48≤l.getD p 0∧l.getD p 0≤57):gG l p=true:=by unfold gG jd;rw [decide_eq_true hn];simp [h]
theorem PI {l:List Int} {p:Nat} (h:p<l.length) (hn: ¬(48≤l.getD p 0∧l.getD p 0≤57)):gG l p=decide (0<fC (l.drop p)):=by unfold gG jd;rw [decide_eq_false hn];simp [h]
set_option maxRecDepth 100000 in
set_option maxHeartbeats 4000000 in
theorem wQ (v:Value) (l:List Int) (p:Nat) (w:World) (hs:Sl w v l) (hp:p≤l.length):
  Calls Tryz.prog 205 #[v,.int .i64 p] w fun e w'=>e= .returned (.bool (gG l p))∧w=w':=by
 by_cases hlt:p<l.length
 ·obtain ⟨hy,hl,⟨rfl,a,cap,rfl⟩ | ⟨b,o,cap,rfl,hcl,hcm,hr⟩⟩:=hs
  ·simp at hlt
  ·have hcell:=hr p hlt
   have hby:=hy p
   have Gi:=Lib.hid (Sl.drop hy hl hcl hcm hr p hp)
   have Fb:=Lib.hid (zu _ _ w Gi.out)
   by_cases hn:48≤l.getD p 0∧l.getD p 0≤57
   ·have HG:=Lib.hid (LW hlt hn)
    generalize l.getD p 0=c at*
    obtain ⟨n1,n2⟩:=hn
    clear hy hr
    generalize l.length=n at*
    go_enter Tryz.func205,Tryz.ntmps205
    go_wp2
    go_ret
    exact ⟨bK HG.out.symm,rfl⟩
   ·have HG:=Lib.hid (PI hlt hn)
    have SH:Hid (Calls Tryz.prog 92 #[.slice (some ⟨b,o+p,none⟩) (l.length - p) (cap - p)] w (fun e w'=>e= .returned (.int .i64 (fC (l.drop p)))∧w=w')):=Fb
    clear Fb
    generalize fC (l.drop p)=x at*
    generalize l.getD p 0=c at*
    clear hy hr Gi
    generalize l.length=n at*
    have hp2:p<cap:=by omega
    rcases (by omega:c<48∨57<c) with n1 | n1
    all_goals
     try have h48:(48:Int)≤c:=by omega
     rcases Nat.eq_zero_or_pos x with rfl | hx
     ·clear hn
      go_enter Tryz.func205,Tryz.ntmps205
      go_wp2_with fail
      refine SH.out.mono ?_
      rintro e w' ⟨rfl,rfl⟩
      go_wp2
      go_ret
      exact ⟨bK (by rw [HG.out];rfl),rfl⟩
     ·have hxi:(0:Int)<x:=by omega
      clear hn
      go_enter Tryz.func205,Tryz.ntmps205
      go_wp2_with fail
      refine SH.out.mono ?_
      rintro e w' ⟨rfl,rfl⟩
      go_wp2
      go_ret
      exact ⟨bK (by rw [HG.out];simpa using hx),rfl⟩
 ·have HG:=Lib.hid (Ee hlt)
  obtain ⟨hy,hl,⟨rfl,a,cap,rfl⟩ | ⟨b,o,cap,rfl,hcl,hcm,hr⟩⟩:=hs
  ·obtain rfl:p=0:=by simpa using hp
   go_enter Tryz.func205,Tryz.ntmps205
   go_wp2
   go_ret
   exact ⟨bK HG.out.symm,rfl⟩
  ·obtain rfl:p=l.length:=by omega
   clear hy hr
   generalize l.length=n at*
   go_enter Tryz.func205,Tryz.ntmps205
   go_wp2
   go_ret
   exact ⟨bK HG.out.symm,rfl⟩
end Go.Proofs.YtacfglopionkfaaGreatDoor
