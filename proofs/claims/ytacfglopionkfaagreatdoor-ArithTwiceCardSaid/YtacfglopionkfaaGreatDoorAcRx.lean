import Derived.Test.YtacfglopionkfaaGreatDoorKMc
import Derived.Test.YtacfglopionkfaaGreatDoorKPu
namespace Go.Proofs.YtacfglopionkfaaGreatDoor
open Go.RowKit
set_option maxHeartbeats 1000000 in
theorem Hl (l r:Int) (w:World):Calls Tryz.prog 138 #[.string ⟨#[117,43]⟩,.int .i64 l,.int .i64 r] w fun e w'=>e= .returned (.int .i64 (wrap64 r))∧w=w':=by
 go_enter Tryz.func138,Tryz.ntmps138
 go_wp2_with fail
 go_ret
 exact ⟨rfl,rfl⟩
set_option maxHeartbeats 1000000 in
theorem Ep (l r:Int) (w:World):Calls Tryz.prog 138 #[.string ⟨#[117,45]⟩,.int .i64 l,.int .i64 r] w fun e w'=>e= .returned (.int .i64 (wrap64 (-r)))∧w=w':=by
 go_enter Tryz.func138,Tryz.ntmps138
 go_wp2_with fail
 go_ret
 exact ⟨rfl,rfl⟩
set_option maxHeartbeats 1000000 in
theorem Hq (l r:Int) (w:World):Calls Tryz.prog 138 #[.string ⟨#[45]⟩,.int .i64 l,.int .i64 r] w fun e w'=>e= .returned (.int .i64 (wrap64 (l - r)))∧w=w':=by
 go_enter Tryz.func138,Tryz.ntmps138
 go_wp2_with fail
 go_ret
 exact ⟨rfl,rfl⟩
set_option maxHeartbeats 1000000 in
theorem OZ (l r:Int) (w:World):Calls Tryz.prog 138 #[.string ⟨#[126]⟩,.int .i64 l,.int .i64 r] w fun e w'=>e= .returned (.int .i64 (bits .xor .i64 (-1) r))∧w=w':=by
 go_enter Tryz.func138,Tryz.ntmps138
 go_wp2_with fail
 go_ret
 exact ⟨rfl,rfl⟩
set_option maxHeartbeats 1000000 in
theorem OW (l r:Int) (w:World):Calls Tryz.prog 138 #[.string ⟨#[94]⟩,.int .i64 l,.int .i64 r] w fun e w'=>e= .returned (.int .i64 (bits .xor .i64 l r))∧w=w':=by
 go_enter Tryz.func138,Tryz.ntmps138
 go_wp2_with fail
 go_ret
 exact ⟨rfl,rfl⟩
set_option maxHeartbeats 1000000 in
theorem O6 (l r:Int) (w:World):Calls Tryz.prog 138 #[.string ⟨#[38]⟩,.int .i64 l,.int .i64 r] w fun e w'=>e= .returned (.int .i64 (bits .and .i64 l r))∧w=w':=by
 go_enter Tryz.func138,Tryz.ntmps138
 go_wp2_with fail
 go_ret
 exact ⟨rfl,rfl⟩
set_option maxHeartbeats 1000000 in
theorem Uo (l r:Int) (w:World):Calls Tryz.prog 138 #[.string ⟨#[124]⟩,.int .i64 l,.int .i64 r] w fun e w'=>e= .returned (.int .i64 (bits .or .i64 l r))∧w=w':=by
 go_enter Tryz.func138,Tryz.ntmps138
 go_wp2_with fail
 go_ret
 exact ⟨rfl,rfl⟩
set_option maxHeartbeats 1000000 in
theorem O5 (l r:Int) (h0: ¬r=0) (w:World):Calls Tryz.prog 138 #[.string ⟨#[47]⟩,.int .i64 l,.int .i64 r] w fun e w'=>e= .returned (.int .i64 (wrap64 (l.tdiv r)))∧w=w':=by
 go_enter Tryz.func138,Tryz.ntmps138
 go_wp2_with fail
 go_ret
 exact ⟨rfl,rfl⟩
set_option maxHeartbeats 1000000 in
theorem O4 (l r:Int) (h0: ¬r=0) (w:World):Calls Tryz.prog 138 #[.string ⟨#[37]⟩,.int .i64 l,.int .i64 r] w fun e w'=>e= .returned (.int .i64 (l.tmod r))∧w=w':=by
 go_enter Tryz.func138,Tryz.ntmps138
 go_wp2_with fail
 go_ret
 exact ⟨rfl,rfl⟩
set_option maxHeartbeats 1000000 in
theorem OY (l r:Int) (w:World):Calls Tryz.prog 138 #[.string ⟨#[60,60]⟩,.int .i64 l,.int .i64 r] w fun e w'=>e= .returned (.int .i64 (wrap64 (l*2 ^ Jp r)))∧w=w':=by
 obtain ⟨hb,hn⟩:=Dh r
 generalize Jp r=n at*
 have hneg: ¬(n:Int)<0:=by omega
 have hmin:min n 64=n:=by omega
 have Ou:min (n:Int).toNat 64=n:=by omega
 go_enter Tryz.func138,Tryz.ntmps138
 go_wp2_with fail
 go_ret
 exact ⟨rfl,rfl⟩
set_option maxHeartbeats 1000000 in
theorem OX (l r:Int) (w:World):Calls Tryz.prog 138 #[.string ⟨#[62,62]⟩,.int .i64 l,.int .i64 r] w fun e w'=>e= .returned (.int .i64 (l / 2 ^ Jp r))∧w=w':=by
 obtain ⟨hb,hn⟩:=Dh r
 generalize Jp r=n at*
 have hneg: ¬(n:Int)<0:=by omega
 have hmin:min n 64=n:=by omega
 have Ou:min (n:Int).toNat 64=n:=by omega
 go_enter Tryz.func138,Tryz.ntmps138
 go_wp2_with fail
 go_ret
 exact ⟨rfl,rfl⟩
end Go.Proofs.YtacfglopionkfaaGreatDoor
