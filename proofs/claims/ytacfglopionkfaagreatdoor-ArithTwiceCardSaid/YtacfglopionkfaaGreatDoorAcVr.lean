import Derived.Test.YtacfglopionkfaaGreatDoorKSc
namespace Go.Proofs.YtacfglopionkfaaGreatDoor
open Go.RowKit
def IK (c:Int):Int:=if oG c=16 then 99 else oG c
set_option maxHeartbeats 2000000 in
theorem lW (c:Int) (w:World) (h0:0≤c) (h1:c≤255):
  Calls Tryz.prog 109 #[.int .u8 c] w fun e w'=>e= .returned (.int .i64 (IK c))∧w=w':=by
 rcases (by omega:c<48∨(48≤c∧c≤57)∨(57<c∧c<65)∨(65≤c∧c≤70)∨(70<c∧c<97)∨(97≤c∧c≤102)∨102<c) with h | h | h | h | h | h | h
 all_goals
  go_enter Tryz.func109,Tryz.ntmps109
  go_wp2
  all_goals
   go_ret
   exact ⟨je (by unfold IK oG;(repeat' split)<;>omega),rfl⟩
end Go.Proofs.YtacfglopionkfaaGreatDoor
