import Derived.Test.YtacfglopionkfaaGreatDoorKDg
import Derived.Test.YtacfglopionkfaaGreatDoorKMt
namespace Go.Proofs.YtacfglopionkfaaGreatDoor
open Go.RowKit
set_option maxHeartbeats 2000000 in
theorem CW (c:Int) (w:World) (h0:0≤c) (h1:c≤255):
  Calls Tryz.prog 93 #[.int .u8 c] w fun e w'=>e= .returned (.bool (jh c))∧w=w':=by
 have hd: ∃x,x=jh c:=⟨_,rfl⟩
 obtain ⟨x,hx⟩:=hd
 rw [←hx]
 have HX:=Lib.hid hx
 clear hx
 rcases (by omega:c<48∨(48≤c∧c≤57)∨(57<c∧c<65)∨(65≤c∧c≤90)∨(90<c∧c<95)∨c=95∨c=96∨(97≤c∧c≤122)∨122<c) with h | h | h | h | h | rfl | rfl | h | h
 all_goals
  go_enter Tryz.func93,Tryz.ntmps93
  go_wp2
  all_goals
   go_ret
   exact ⟨bK (by rw [HX.out];unfold jh;rw [Bool.eq_iff_iff];simp;try omega),rfl⟩
set_option maxHeartbeats 2000000 in
theorem xC (c:Int) (w:World) (h0:0≤c) (h1:c≤255):
  Calls Tryz.prog 94 #[.int .u8 c] w fun e w'=>e= .returned (.bool (jh c || jd c))∧w=w':=by
 have hd: ∃x,x=(jh c || jd c):=⟨_,rfl⟩
 obtain ⟨x,hx⟩:=hd
 rw [←hx]
 have HX:=Lib.hid hx
 clear hx
 rcases (by omega:c<48∨(48≤c∧c≤57)∨(57<c∧c<65)∨(65≤c∧c≤90)∨(90<c∧c<95)∨c=95∨c=96∨(97≤c∧c≤122)∨122<c) with h | h | h | h | h | rfl | rfl | h | h
 all_goals
  go_enter Tryz.func94,Tryz.ntmps94
  go_wp2
  all_goals
   go_ret
   exact ⟨bK (by rw [HX.out];unfold jh jd;rw [Bool.eq_iff_iff];simp;try omega),rfl⟩
set_option maxHeartbeats 4000000 in
theorem xY (b o cap:Nat) (l:List Int) (w:World) (hl:l.length≤9223372036854775807) (hy:nN l) (hc:Row w b o l):
  Calls Tryz.prog 55 #[.slice (some ⟨b,o,none⟩) l.length cap] w fun e w'=>e= .returned (.int .i64 (iG (nameB l) l.length))∧w=w':=by
 have HC:=Lib.hid hc
 have HY:=Lib.hid hy
 clear hc hy
 obtain ⟨n,hn⟩: ∃n,n=l.length:=⟨_,rfl⟩
 rw [←hn] at hl⊢
 have HN:=Lib.hid hn
 clear hn
 go_enter Tryz.func55,Tryz.ntmps55
 go_wp2
 go_loop [3] (fun i=> ∃k:Nat,k≤n∧(∀j,j<k→nameB l j=true)∧i= .int .i64 k) (fun i=>n - (intOf i).toNat)
 case atStart=>exact ⟨0,Nat.zero_le _,fun j hj=>absurd hj (by omega),rfl⟩
 case round =>
  obtain ⟨k,hk,hd,rfl⟩:=hrel
  have HD:=Lib.hid hd
  clear hd
  by_cases hlt:k<n
  ·have hcell:=HC.out k (by rw [←HN.out];exact hlt)
   have hby:=HY.out k
   have HQ:Hid (nameB l k=(jh (l.getD k 0) || (decide ((0:Int)<k) && jd (l.getD k 0)))):=rfl
   generalize l.getD k 0=c at hcell hby HQ
   obtain ⟨y0,y1⟩:=hby
   have HL:=Lib.hid (CW c w y0 y1)
   have HP:=Lib.hid (xC c w y0 y1)
   have hn:nameB l k=true∨nameB l k=false:=by cases nameB l k<;>simp
   have SG:=Lib.hid hn
   clear hn
   generalize jh c=lb at*
   generalize jd c=nb at*
   rcases Nat.eq_zero_or_pos k with rfl | hkp
   ·simp only [Nat.add_zero] at hcell
    have h0n:(0:Int)<n:=by omega
    cases lb
    all_goals
     cases nb
     all_goals
      go_wp2_with (first | (go_at_call 93;refine HL.out.mono ?_;rintro e w' ⟨rfl,rfl⟩) | (go_at_call 94;refine HP.out.mono ?_;rintro e w' ⟨rfl,rfl⟩))
      all_goals
       first
        | (exfalso;omega)
        | (go_ret;exact ⟨je (by rw [(iL (nameB l) n).same ⟨by omega,HD.out,fun _=>by rw [HQ.out];simp⟩];rfl),rfl⟩)
        | (go_round
           case rel=>
            refine ⟨1,by omega,fun j hj=>?_,by go_num⟩
            obtain rfl:j=0:=by omega
            rw [HQ.out];simp
           case measure=>simp [intOf];omega)
   ·have hk1:(0:Int)<k:=by omega
    cases lb
    all_goals
     cases nb
     all_goals
      go_wp2_with (first | (go_at_call 93;refine HL.out.mono ?_;rintro e w' ⟨rfl,rfl⟩) | (go_at_call 94;refine HP.out.mono ?_;rintro e w' ⟨rfl,rfl⟩))
      all_goals
       first
        | (exfalso;omega)
        | (go_ret;exact ⟨je (by rw [(iL (nameB l) n).same ⟨by omega,HD.out,fun _=>by rw [HQ.out];simp⟩]),rfl⟩)
        | (go_round
           case rel=>
            refine ⟨k+1,by omega,fun j hj=>?_,by go_num⟩
            by_cases hjk:j=k
            ·rw [hjk,HQ.out];simp;try omega
            ·exact HD.out j (by omega)
           case measure=>simp [intOf];omega)
  ·obtain rfl:k=n:=by omega
   have HS:Hid (iG (nameB l) k=k):=(iL _ _).same ⟨by omega,HD.out,fun h=>absurd h (by omega)⟩
   go_wp2
   go_ret
   exact ⟨je (by rw [HS.out]),rfl⟩
theorem zY (a:Option Addr) (cap:Nat) (w:World):
  Calls Tryz.prog 55 #[.slice a 0 cap] w fun e w'=>e= .returned (.int .i64 (iG (nameB []) 0))∧w=w':=by
 have HS:Hid (iG (nameB []) 0=0):=rfl
 go_enter Tryz.func55,Tryz.ntmps55
 go_wp2
 go_loop [3] (fun i=>i= .int .i64 0) (fun _=>0)
 case atStart=>rfl
 case round=>
  obtain rfl:=hrel
  go_wp2
  go_ret
  exact ⟨je (by rw [HS.out];rfl),rfl⟩
theorem iP (v:Value) (l:List Int) (w:World) (hs:Sl w v l):
  Calls Tryz.prog 55 #[v] w (fun e w'=>e= .returned (.int .i64 (fC l))∧w=w'):=by
 obtain ⟨hy,hl,⟨rfl,a,cap,rfl⟩ | ⟨b,o,cap,rfl,hcl,hcm,hr⟩⟩:=hs
 ·exact zY a cap w
 ·exact xY b o cap l w hl hy hr
end Go.Proofs.YtacfglopionkfaaGreatDoor
