import Derived.Test.YtacfglopionkfaaGreatDoorKAu
import Derived.Test.YtacfglopionkfaaGreatDoorKRi
namespace Go.Proofs.YtacfglopionkfaaGreatDoor
set_option maxHeartbeats 8000000
set_option maxRecDepth 100000
open Go.RowKit
set_option maxHeartbeats 1000000 in
theorem XC (w:World):Calls Tryz.prog 76 #[.string mO] w fun x w'=>x= .returned (.bool false)∧w'=w:=by
 unfold mO
 go_enter Tryz.func76,Tryz.ntmps76
 go_wp2
 go_ret
 exact ⟨rfl,rfl⟩
set_option maxHeartbeats 1000000 in
theorem U6 (w:World):Calls Tryz.prog 76 #[.string jk] w fun x w'=>x= .returned (.bool false)∧w'=w:=by
 unfold jk
 go_enter Tryz.func76,Tryz.ntmps76
 go_wp2
 go_ret
 exact ⟨rfl,rfl⟩
set_option maxHeartbeats 1000000 in
theorem XB (w:World):Calls Tryz.prog 76 #[.string iE] w fun x w'=>x= .returned (.bool false)∧w'=w:=by
 unfold iE
 go_enter Tryz.func76,Tryz.ntmps76
 go_wp2
 go_ret
 exact ⟨rfl,rfl⟩
set_option maxHeartbeats 1000000 in
theorem XF (w:World):Calls Tryz.prog 76 #[.string fV] w fun x w'=>x= .returned (.bool false)∧w'=w:=by
 unfold fV
 go_enter Tryz.func76,Tryz.ntmps76
 go_wp2
 go_ret
 exact ⟨rfl,rfl⟩
set_option maxHeartbeats 1000000 in
theorem aaF (w:World):Calls Tryz.prog 76 #[.string jR] w fun x w'=>x= .returned (.bool false)∧w'=w:=by
 unfold jR
 go_enter Tryz.func76,Tryz.ntmps76
 go_wp2
 go_ret
 exact ⟨rfl,rfl⟩
set_option maxHeartbeats 1000000 in
theorem aaD (w:World):Calls Tryz.prog 76 #[.string (⟨#[117,43]⟩:ByteArray)] w fun x w'=>x= .returned (.bool false)∧w'=w:=by
 go_enter Tryz.func76,Tryz.ntmps76
 go_wp2
 go_ret
 exact ⟨rfl,rfl⟩
set_option maxHeartbeats 1000000 in
theorem aaE (w:World):Calls Tryz.prog 76 #[.string (⟨#[117,45]⟩:ByteArray)] w fun x w'=>x= .returned (.bool false)∧w'=w:=by
 go_enter Tryz.func76,Tryz.ntmps76
 go_wp2
 go_ret
 exact ⟨rfl,rfl⟩
set_option maxHeartbeats 1000000 in
theorem XE (w:World):Calls Tryz.prog 76 #[.string (⟨#[126]⟩:ByteArray)] w fun x w'=>x= .returned (.bool false)∧w'=w:=by
 go_enter Tryz.func76,Tryz.ntmps76
 go_wp2
 go_ret
 exact ⟨rfl,rfl⟩
set_option maxHeartbeats 1000000 in
theorem XD (w:World):Calls Tryz.prog 76 #[.string (⟨#[33]⟩:ByteArray)] w fun x w'=>x= .returned (.bool false)∧w'=w:=by
 go_enter Tryz.func76,Tryz.ntmps76
 go_wp2
 go_ret
 exact ⟨rfl,rfl⟩
theorem iC {mb:Nat} {w w':World} {b:Nat} {C:Array Value} {t:TypeId} (h:w.heap[b]? =some (.cells C t (0,0))) (hc:Ch mb w w') (hb:b≠mb):w'.heap[b]? =some (.cells C t (0,0)):=(hc.2 b (lt_of_heap h) hb).trans h
set_option maxHeartbeats 4000000 in
theorem aaO (mb:Nat) (l0:Vl) (v:Int) (p:Nat):zi mb l0 (.num v p):=by
 intro e kv vv w _ _ hin hm
 obtain rfl:kv= .slice none 0 0:=hin
 show Calls Tryz.prog 67 #[.pointer (some ⟨mb,0,none⟩),.agg #[.string ⟨#[110,117,109]⟩,.int .i64 v,.string ⟨#[]⟩,.int .i64 p,.int .i64 0,.slice none 0 0]] w _
 obtain ⟨W,hW⟩: ∃W,W=w.alloc (.cells #[.string ⟨#[110,117,109]⟩,.int .i64 v,.string ⟨#[]⟩,.int .i64 p,.int .i64 0,.slice none 0 0] 30):=⟨_,rfl⟩
 have hb0:Below w.heap.size w W:=by rw [hW];exact (Below.refl _ _).alloc (Nat.le_refl _) _
 have HG:Hid (W.heap[w.heap.size]? =some (.cells #[.string ⟨#[110,117,109]⟩,.int .i64 v,.string ⟨#[]⟩,.int .i64 p,.int .i64 0,.slice none 0 0] 30 (0,0))):=Lib.hid (by rw [hW];exact heap_alloc_last w _)
 have hlt:=hm.lt
 have HB0:Hid (Ch mb w W∧mb<w.heap.size∧w.heap.size<W.heap.size):=Lib.hid ⟨Ch.of_below hb0 (Nat.le_of_lt hlt),hlt,lt_of_heap HG.out⟩
 have hmW:=hm.next hb0
 obtain ⟨c0,c1,c2,c3⟩:=hmW.cells
 obtain ⟨⟨z0,z1,z2,z3,z4,z5⟩,_⟩:=aA HG.out
 have HW:=Lib.hid hW
 have HM:=Lib.hid hmW
 clear hm hb0 hW hmW
 go_enter Tryz.func67,Tryz.ntmps67
 go_upto_region 1 with fail
 rw [←HW.out]
 go_wp2_with fail
 refine (XC _).mono ?_
 rintro x w1 ⟨rfl,rfl⟩
 go_wp2_with fail
 go_ret
 exact ⟨⟨v,rfl,rfl,vv,HM.out⟩,HB0.out.1⟩
set_option maxHeartbeats 4000000 in
theorem XR (mb:Nat) (l0:Vl) (hr:l0.lS) (hz: ∀x∈l0,x.2.size≤9223372036854775807) (hl:l0.length≤5000) (s:ByteArray) (p:Nat):zi mb l0 (.name s p):=by
 intro e kv vv w hlen he hin hm
 obtain rfl:kv= .slice none 0 0:=hin
 show Calls Tryz.prog 67 #[.pointer (some ⟨mb,0,none⟩),.agg #[.string ⟨#[110,97,109,101]⟩,.int .i64 0,.string s,.int .i64 p,.int .i64 0,.slice none 0 0]] w _
 obtain ⟨W,hW⟩: ∃W,W=w.alloc (.cells #[.string ⟨#[110,97,109,101]⟩,.int .i64 0,.string s,.int .i64 p,.int .i64 0,.slice none 0 0] 30):=⟨_,rfl⟩
 have hb0:Below w.heap.size w W:=by rw [hW];exact (Below.refl _ _).alloc (Nat.le_refl _) _
 have HG:Hid (W.heap[w.heap.size]? =some (.cells #[.string ⟨#[110,97,109,101]⟩,.int .i64 0,.string s,.int .i64 p,.int .i64 0,.slice none 0 0] 30 (0,0))):=Lib.hid (by rw [hW];exact heap_alloc_last w _)
 have hlt:=hm.lt
 have HB0:Hid (Ch mb w W∧mb<w.heap.size∧w.heap.size<W.heap.size):=Lib.hid ⟨Ch.of_below hb0 (Nat.le_of_lt hlt),hlt,lt_of_heap HG.out⟩
 have hmW:=hm.next hb0
 obtain ⟨c0,c1,c2,c3⟩:=hmW.cells
 obtain ⟨⟨z0,z1,z2,z3,z4,z5⟩,_⟩:=aA HG.out
 have HW:=Lib.hid hW
 have HL:Hid (Calls Tryz.prog 100 #[.pointer (some ⟨mb,0,none⟩),.string s,.int .i64 p] W fun x w'=>Dt mb l0 (jZ (dY l0) s p e) x w'∧Ch mb W w'):=Lib.hid (ld_next hr hz hl he (by omega) hmW s p)
 clear hm hb0 hW hmW hr hz hl he hlen
 go_enter Tryz.func67,Tryz.ntmps67
 go_upto_region 1 with fail
 rw [←HW.out]
 go_wp2_with fail
 refine (U6 _).mono ?_
 rintro x w1 ⟨rfl,rfl⟩
 go_wp2_with fail
 refine HL.out.mono ?_
 rintro x w2 ⟨⟨n,rfl,hv⟩,hc⟩
 have HV:=Lib.hid hv
 have HC:=Lib.hid (HB0.out.1.trans hc)
 clear hv hc
 go_wp2_with fail
 go_ret
 exact ⟨⟨n,rfl,HV.out⟩,HC.out⟩
set_option maxHeartbeats 4000000 in
theorem Vb (mb:Nat) (l0:Vl) (p:Nat) (a:Tr) (hf:a.Fits) (ha:zi mb l0 a):zi mb l0 (.un ⟨#[117,43]⟩ p a):=by
 intro e kv vv w hlen he hin hm
 obtain ⟨k,ka,rfl,hkm,hkb,hia⟩:=hin
 obtain ⟨oa,na,rfl⟩:=hia.shape
 simp only [need] at hlen
 show Calls Tryz.prog 67 #[.pointer (some ⟨mb,0,none⟩),.agg #[.string ⟨#[117,43]⟩,.int .i64 0,.string ⟨#[]⟩,.int .i64 p,.int .i64 0,.slice (some ⟨k,0,none⟩) 1 1]] w _
 obtain ⟨W,hW⟩: ∃W,W=w.alloc (.cells #[.string ⟨#[117,43]⟩,.int .i64 0,.string ⟨#[]⟩,.int .i64 p,.int .i64 0,.slice (some ⟨k,0,none⟩) 1 1] 30):=⟨_,rfl⟩
 have hb0:Below w.heap.size w W:=by rw [hW];exact (Below.refl _ _).alloc (Nat.le_refl _) _
 have HG:Hid (W.heap[w.heap.size]? =some (.cells #[.string ⟨#[117,43]⟩,.int .i64 0,.string ⟨#[]⟩,.int .i64 p,.int .i64 0,.slice (some ⟨k,0,none⟩) 1 1] 30 (0,0))):=Lib.hid (by rw [hW];exact heap_alloc_last w _)
 have hlt:=hm.lt
 have HB0:Hid (Ch mb w W∧mb<w.heap.size∧w.heap.size<W.heap.size):=Lib.hid ⟨Ch.of_below hb0 (Nat.le_of_lt hlt),hlt,lt_of_heap HG.out⟩
 have hmW:=hm.next hb0
 obtain ⟨c0,c1,c2,c3⟩:=hmW.cells
 obtain ⟨⟨z0,z1,z2,z3,z4,z5⟩,_⟩:=aA HG.out
 have HW:=Lib.hid hW
 have hkW:W.heap[k]? =some (.cells #[.string a.op,.int .i64 a.val,.string a.nm,.int .i64 a.pos,.int .i64 a.aG,.slice oa na na] 30 (0,0)):=(hb0.block k (lt_of_heap hkb)).trans hkb
 obtain ⟨⟨q0,q1,q2,q3,q4,q5⟩,_⟩:=aA hkW
 have xK:Hid (Calls Tryz.prog 67 #[.pointer (some ⟨mb,0,none⟩),.agg #[.string a.op,.int .i64 a.val,.string a.nm,.int .i64 a.pos,.int .i64 a.aG,.slice oa na na]] W fun x w'=>Dt mb l0 (ev (dY l0) a e) x w'∧Ch mb W w'):=Lib.hid (ha e _ vv W (by omega) he (hia.kept (fun k _ hs=>hb0.block k hs) a _) hmW)
 have Qm:Hid (∀v e1,ev (dY l0) a e= .ok v e1→I64 v):=Lib.hid (fun v e1 h=>(qY (dY l0) (fun n=>(jc _).1) a e e1 v hf he h).1)
 have Gj:Hid (∀n w',pX mb l0 (ev (dY l0) a e) n w'→pX mb l0 (ev (dY l0) (.un ⟨#[117,43]⟩ p a) e) (n) w'):=Lib.hid (fun n w' h=>h.map (n) (fun v e1=>ig ⟨#[117,43]⟩ v e1) (fun v e1 hv hn=>by
  subst hn
  have hI:=Qm.out n e1 hv
  unfold ig
  have e1:kK ⟨#[117,43]⟩ 0 n=some (wrap64 n):=rfl
  rw [e1]
  have e2:wrap64 n=n:=by unfold I64 at hI;unfold wrap64;omega
  rw [e2]))
 clear hm hb0 hW hmW he hlen hf ha hkb hia hkW hkm Qm
 go_enter Tryz.func67,Tryz.ntmps67
 go_upto_region 1 with fail
 rw [←HW.out]
 go_wp2_with fail
 refine (aaD _).mono ?_
 rintro x w1 ⟨rfl,rfl⟩
 go_wp2_with fail
 refine xK.out.mono ?_
 rintro x w2 ⟨⟨n,rfl,hv⟩,hc⟩
 have HV:=Lib.hid (Gj.out n w2 hv)
 have HC:=Lib.hid (HB0.out.1.trans hc)
 clear z0 z1 z2 z3 z4 z5 q0 q1 q2 q3 q4 q5 c0 c1 c2 c3
 obtain ⟨⟨z0,z1,z2,z3,z4,z5⟩,_⟩:=aA (iC HG.out hc (by have:=HB0.out.2.1;omega))
 clear hv hc
 go_wp2_with fail
 go_ret
 exact ⟨⟨_,rfl,HV.out⟩,HC.out⟩
set_option maxHeartbeats 4000000 in
theorem Vd (mb:Nat) (l0:Vl) (p:Nat) (a:Tr) (hf:a.Fits) (ha:zi mb l0 a):zi mb l0 (.un ⟨#[117,45]⟩ p a):=by
 intro e kv vv w hlen he hin hm
 obtain ⟨k,ka,rfl,hkm,hkb,hia⟩:=hin
 obtain ⟨oa,na,rfl⟩:=hia.shape
 simp only [need] at hlen
 show Calls Tryz.prog 67 #[.pointer (some ⟨mb,0,none⟩),.agg #[.string ⟨#[117,45]⟩,.int .i64 0,.string ⟨#[]⟩,.int .i64 p,.int .i64 0,.slice (some ⟨k,0,none⟩) 1 1]] w _
 obtain ⟨W,hW⟩: ∃W,W=w.alloc (.cells #[.string ⟨#[117,45]⟩,.int .i64 0,.string ⟨#[]⟩,.int .i64 p,.int .i64 0,.slice (some ⟨k,0,none⟩) 1 1] 30):=⟨_,rfl⟩
 have hb0:Below w.heap.size w W:=by rw [hW];exact (Below.refl _ _).alloc (Nat.le_refl _) _
 have HG:Hid (W.heap[w.heap.size]? =some (.cells #[.string ⟨#[117,45]⟩,.int .i64 0,.string ⟨#[]⟩,.int .i64 p,.int .i64 0,.slice (some ⟨k,0,none⟩) 1 1] 30 (0,0))):=Lib.hid (by rw [hW];exact heap_alloc_last w _)
 have hlt:=hm.lt
 have HB0:Hid (Ch mb w W∧mb<w.heap.size∧w.heap.size<W.heap.size):=Lib.hid ⟨Ch.of_below hb0 (Nat.le_of_lt hlt),hlt,lt_of_heap HG.out⟩
 have hmW:=hm.next hb0
 obtain ⟨c0,c1,c2,c3⟩:=hmW.cells
 obtain ⟨⟨z0,z1,z2,z3,z4,z5⟩,_⟩:=aA HG.out
 have HW:=Lib.hid hW
 have hkW:W.heap[k]? =some (.cells #[.string a.op,.int .i64 a.val,.string a.nm,.int .i64 a.pos,.int .i64 a.aG,.slice oa na na] 30 (0,0)):=(hb0.block k (lt_of_heap hkb)).trans hkb
 obtain ⟨⟨q0,q1,q2,q3,q4,q5⟩,_⟩:=aA hkW
 have xK:Hid (Calls Tryz.prog 67 #[.pointer (some ⟨mb,0,none⟩),.agg #[.string a.op,.int .i64 a.val,.string a.nm,.int .i64 a.pos,.int .i64 a.aG,.slice oa na na]] W fun x w'=>Dt mb l0 (ev (dY l0) a e) x w'∧Ch mb W w'):=Lib.hid (ha e _ vv W (by omega) he (hia.kept (fun k _ hs=>hb0.block k hs) a _) hmW)
 have Qm:Hid (∀v e1,ev (dY l0) a e= .ok v e1→I64 v):=Lib.hid (fun v e1 h=>(qY (dY l0) (fun n=>(jc _).1) a e e1 v hf he h).1)
 have Gj:Hid (∀n w',pX mb l0 (ev (dY l0) a e) n w'→pX mb l0 (ev (dY l0) (.un ⟨#[117,45]⟩ p a) e) (wrap64 (-n)) w'):=Lib.hid (fun n w' h=>h.map (wrap64 (-n)) (fun v e1=>ig ⟨#[117,45]⟩ v e1) (fun v e1 hv hn=>by
  subst hn
  have hI:=Qm.out n e1 hv
  unfold ig
  have e1:kK ⟨#[117,45]⟩ 0 n=some (wrap64 (-n)):=rfl
  rw [e1]))
 clear hm hb0 hW hmW he hlen hf ha hkb hia hkW hkm Qm
 go_enter Tryz.func67,Tryz.ntmps67
 go_upto_region 1 with fail
 rw [←HW.out]
 go_wp2_with fail
 refine (aaE _).mono ?_
 rintro x w1 ⟨rfl,rfl⟩
 go_wp2_with fail
 refine xK.out.mono ?_
 rintro x w2 ⟨⟨n,rfl,hv⟩,hc⟩
 have HV:=Lib.hid (Gj.out n w2 hv)
 have HC:=Lib.hid (HB0.out.1.trans hc)
 clear z0 z1 z2 z3 z4 z5 q0 q1 q2 q3 q4 q5 c0 c1 c2 c3
 obtain ⟨⟨z0,z1,z2,z3,z4,z5⟩,_⟩:=aA (iC HG.out hc (by have:=HB0.out.2.1;omega))
 clear hv hc
 go_wp2_with fail
 go_ret
 exact ⟨⟨_,rfl,HV.out⟩,HC.out⟩
set_option maxHeartbeats 4000000 in
theorem QO (mb:Nat) (l0:Vl) (p:Nat) (a:Tr) (hf:a.Fits) (ha:zi mb l0 a):zi mb l0 (.un ⟨#[126]⟩ p a):=by
 intro e kv vv w hlen he hin hm
 obtain ⟨k,ka,rfl,hkm,hkb,hia⟩:=hin
 obtain ⟨oa,na,rfl⟩:=hia.shape
 simp only [need] at hlen
 show Calls Tryz.prog 67 #[.pointer (some ⟨mb,0,none⟩),.agg #[.string ⟨#[126]⟩,.int .i64 0,.string ⟨#[]⟩,.int .i64 p,.int .i64 0,.slice (some ⟨k,0,none⟩) 1 1]] w _
 obtain ⟨W,hW⟩: ∃W,W=w.alloc (.cells #[.string ⟨#[126]⟩,.int .i64 0,.string ⟨#[]⟩,.int .i64 p,.int .i64 0,.slice (some ⟨k,0,none⟩) 1 1] 30):=⟨_,rfl⟩
 have hb0:Below w.heap.size w W:=by rw [hW];exact (Below.refl _ _).alloc (Nat.le_refl _) _
 have HG:Hid (W.heap[w.heap.size]? =some (.cells #[.string ⟨#[126]⟩,.int .i64 0,.string ⟨#[]⟩,.int .i64 p,.int .i64 0,.slice (some ⟨k,0,none⟩) 1 1] 30 (0,0))):=Lib.hid (by rw [hW];exact heap_alloc_last w _)
 have hlt:=hm.lt
 have HB0:Hid (Ch mb w W∧mb<w.heap.size∧w.heap.size<W.heap.size):=Lib.hid ⟨Ch.of_below hb0 (Nat.le_of_lt hlt),hlt,lt_of_heap HG.out⟩
 have hmW:=hm.next hb0
 obtain ⟨c0,c1,c2,c3⟩:=hmW.cells
 obtain ⟨⟨z0,z1,z2,z3,z4,z5⟩,_⟩:=aA HG.out
 have HW:=Lib.hid hW
 have hkW:W.heap[k]? =some (.cells #[.string a.op,.int .i64 a.val,.string a.nm,.int .i64 a.pos,.int .i64 a.aG,.slice oa na na] 30 (0,0)):=(hb0.block k (lt_of_heap hkb)).trans hkb
 obtain ⟨⟨q0,q1,q2,q3,q4,q5⟩,_⟩:=aA hkW
 have xK:Hid (Calls Tryz.prog 67 #[.pointer (some ⟨mb,0,none⟩),.agg #[.string a.op,.int .i64 a.val,.string a.nm,.int .i64 a.pos,.int .i64 a.aG,.slice oa na na]] W fun x w'=>Dt mb l0 (ev (dY l0) a e) x w'∧Ch mb W w'):=Lib.hid (ha e _ vv W (by omega) he (hia.kept (fun k _ hs=>hb0.block k hs) a _) hmW)
 have Qm:Hid (∀v e1,ev (dY l0) a e= .ok v e1→I64 v):=Lib.hid (fun v e1 h=>(qY (dY l0) (fun n=>(jc _).1) a e e1 v hf he h).1)
 have Gj:Hid (∀n w',pX mb l0 (ev (dY l0) a e) n w'→pX mb l0 (ev (dY l0) (.un ⟨#[126]⟩ p a) e) (bits .xor .i64 (-1) n) w'):=Lib.hid (fun n w' h=>h.map (bits .xor .i64 (-1) n) (fun v e1=>ig ⟨#[126]⟩ v e1) (fun v e1 hv hn=>by
  subst hn
  have hI:=Qm.out n e1 hv
  unfold ig
  have e1:kK ⟨#[126]⟩ 0 n=some (bits .xor .i64 (-1) n):=rfl
  rw [e1]))
 clear hm hb0 hW hmW he hlen hf ha hkb hia hkW hkm Qm
 go_enter Tryz.func67,Tryz.ntmps67
 go_upto_region 1 with fail
 rw [←HW.out]
 go_wp2_with fail
 refine (XE _).mono ?_
 rintro x w1 ⟨rfl,rfl⟩
 go_wp2_with fail
 refine xK.out.mono ?_
 rintro x w2 ⟨⟨n,rfl,hv⟩,hc⟩
 have HV:=Lib.hid (Gj.out n w2 hv)
 have HC:=Lib.hid (HB0.out.1.trans hc)
 clear z0 z1 z2 z3 z4 z5 q0 q1 q2 q3 q4 q5 c0 c1 c2 c3
 obtain ⟨⟨z0,z1,z2,z3,z4,z5⟩,_⟩:=aA (iC HG.out hc (by have:=HB0.out.2.1;omega))
 clear hv hc
 go_wp2_with fail
 go_ret
 exact ⟨⟨_,rfl,HV.out⟩,HC.out⟩
set_option maxHeartbeats 4000000 in
theorem QN (mb:Nat) (l0:Vl) (p:Nat) (a:Tr) (hf:a.Fits) (ha:zi mb l0 a):zi mb l0 (.un ⟨#[33]⟩ p a):=by
 intro e kv vv w hlen he hin hm
 obtain ⟨k,ka,rfl,hkm,hkb,hia⟩:=hin
 obtain ⟨oa,na,rfl⟩:=hia.shape
 simp only [need] at hlen
 show Calls Tryz.prog 67 #[.pointer (some ⟨mb,0,none⟩),.agg #[.string ⟨#[33]⟩,.int .i64 0,.string ⟨#[]⟩,.int .i64 p,.int .i64 0,.slice (some ⟨k,0,none⟩) 1 1]] w _
 obtain ⟨W,hW⟩: ∃W,W=w.alloc (.cells #[.string ⟨#[33]⟩,.int .i64 0,.string ⟨#[]⟩,.int .i64 p,.int .i64 0,.slice (some ⟨k,0,none⟩) 1 1] 30):=⟨_,rfl⟩
 have hb0:Below w.heap.size w W:=by rw [hW];exact (Below.refl _ _).alloc (Nat.le_refl _) _
 have HG:Hid (W.heap[w.heap.size]? =some (.cells #[.string ⟨#[33]⟩,.int .i64 0,.string ⟨#[]⟩,.int .i64 p,.int .i64 0,.slice (some ⟨k,0,none⟩) 1 1] 30 (0,0))):=Lib.hid (by rw [hW];exact heap_alloc_last w _)
 have hlt:=hm.lt
 have HB0:Hid (Ch mb w W∧mb<w.heap.size∧w.heap.size<W.heap.size):=Lib.hid ⟨Ch.of_below hb0 (Nat.le_of_lt hlt),hlt,lt_of_heap HG.out⟩
 have hmW:=hm.next hb0
 obtain ⟨c0,c1,c2,c3⟩:=hmW.cells
 obtain ⟨⟨z0,z1,z2,z3,z4,z5⟩,_⟩:=aA HG.out
 have HW:=Lib.hid hW
 have hkW:W.heap[k]? =some (.cells #[.string a.op,.int .i64 a.val,.string a.nm,.int .i64 a.pos,.int .i64 a.aG,.slice oa na na] 30 (0,0)):=(hb0.block k (lt_of_heap hkb)).trans hkb
 obtain ⟨⟨q0,q1,q2,q3,q4,q5⟩,_⟩:=aA hkW
 have xK:Hid (Calls Tryz.prog 67 #[.pointer (some ⟨mb,0,none⟩),.agg #[.string a.op,.int .i64 a.val,.string a.nm,.int .i64 a.pos,.int .i64 a.aG,.slice oa na na]] W fun x w'=>Dt mb l0 (ev (dY l0) a e) x w'∧Ch mb W w'):=Lib.hid (ha e _ vv W (by omega) he (hia.kept (fun k _ hs=>hb0.block k hs) a _) hmW)
 have Qm:Hid (∀v e1,ev (dY l0) a e= .ok v e1→I64 v):=Lib.hid (fun v e1 h=>(qY (dY l0) (fun n=>(jc _).1) a e e1 v hf he h).1)
 have Gj:Hid (∀n w',pX mb l0 (ev (dY l0) a e) n w'→pX mb l0 (ev (dY l0) (.un ⟨#[33]⟩ p a) e) (if n=0 then 1 else 0) w'):=Lib.hid (fun n w' h=>h.map (if n=0 then 1 else 0) (fun v e1=>ig ⟨#[33]⟩ v e1) (fun v e1 hv hn=>by
  subst hn
  have hI:=Qm.out n e1 hv
  unfold ig
  have e1:kK ⟨#[33]⟩ 0 n=some (if n=0 then 1 else 0):=rfl
  rw [e1]))
 clear hm hb0 hW hmW he hlen hf ha hkb hia hkW hkm Qm
 go_enter Tryz.func67,Tryz.ntmps67
 go_upto_region 1 with fail
 rw [←HW.out]
 go_wp2_with fail
 refine (XD _).mono ?_
 rintro x w1 ⟨rfl,rfl⟩
 go_wp2_with fail
 refine xK.out.mono ?_
 rintro x w2 ⟨⟨n,rfl,hv⟩,hc⟩
 have HV:=Lib.hid (Gj.out n w2 hv)
 have HC:=Lib.hid (HB0.out.1.trans hc)
 clear z0 z1 z2 z3 z4 z5 q0 q1 q2 q3 q4 q5 c0 c1 c2 c3
 obtain ⟨⟨z0,z1,z2,z3,z4,z5⟩,_⟩:=aA (iC HG.out hc (by have:=HB0.out.2.1;omega))
 clear hv hc
 by_cases hn:n=0
 ·subst hn
  go_wp2_with fail
  refine (dF _ w2).mono ?_
  rintro e w3 ⟨rfl,rfl⟩
  go_wp2_with fail
  go_ret
  exact ⟨⟨_,rfl,HV.out⟩,HC.out⟩
 ·have NC:=HV.out
  rw [if_neg hn] at NC
  have Nr:=Lib.hid NC
  clear HV NC
  have hz:(n==0)=false:=by simpa using hn
  go_wp2_with fail
  refine (dF _ w2).mono ?_
  rintro e w3 ⟨rfl,rfl⟩
  go_wp2_with fail
  go_ret
  exact ⟨⟨_,rfl,Nr.out⟩,HC.out⟩
theorem xu {w:World} {k:Nat} {x0 x1 x2 x3 x4 x5 x6 x7 x8 x9 xa xb:Value} {t:TypeId} (h:w.heap[k]? =some (.cells #[x0,x1,x2,x3,x4,x5,x6,x7,x8,x9,xa,xb] t (0,0))):
  w.cell? ⟨k,0,none⟩=some x0∧w.cell? ⟨k,1,none⟩=some x1∧w.cell? ⟨k,2,none⟩=some x2∧w.cell? ⟨k,3,none⟩=some x3∧w.cell? ⟨k,4,none⟩=some x4∧w.cell? ⟨k,5,none⟩=some x5∧w.cell? ⟨k,6,none⟩=some x6∧w.cell? ⟨k,7,none⟩=some x7∧w.cell? ⟨k,8,none⟩=some x8∧w.cell? ⟨k,9,none⟩=some x9∧w.cell? ⟨k,10,none⟩=some xa∧w.cell? ⟨k,11,none⟩=some xb:=by
 refine ⟨?_,?_,?_,?_,?_,?_,?_,?_,?_,?_,?_,?_⟩<;>simp [World.cell?,h]
theorem PK {w:World} {k:Nat} {x0 x1 x2 x3 x4 x5 x6 x7 x8 x9 xa xb xc xd xe xf xg xh:Value} {t:TypeId} (h:w.heap[k]? =some (.cells #[x0,x1,x2,x3,x4,x5,x6,x7,x8,x9,xa,xb,xc,xd,xe,xf,xg,xh] t (0,0))):
  (w.cell? ⟨k,0,none⟩=some x0∧w.cell? ⟨k,1,none⟩=some x1∧w.cell? ⟨k,2,none⟩=some x2∧w.cell? ⟨k,3,none⟩=some x3∧w.cell? ⟨k,4,none⟩=some x4∧w.cell? ⟨k,5,none⟩=some x5)∧(w.cell? ⟨k,6,none⟩=some x6∧w.cell? ⟨k,7,none⟩=some x7∧w.cell? ⟨k,8,none⟩=some x8∧w.cell? ⟨k,9,none⟩=some x9∧w.cell? ⟨k,10,none⟩=some xa∧w.cell? ⟨k,11,none⟩=some xb)∧
  (w.cell? ⟨k,12,none⟩=some xc∧w.cell? ⟨k,13,none⟩=some xd∧w.cell? ⟨k,14,none⟩=some xe∧w.cell? ⟨k,15,none⟩=some xf∧w.cell? ⟨k,16,none⟩=some xg∧w.cell? ⟨k,17,none⟩=some xh):=by
 refine ⟨⟨?_,?_,?_,?_,?_,?_⟩,⟨?_,?_,?_,?_,?_,?_⟩,?_,?_,?_,?_,?_,?_⟩<;>simp [World.cell?,h]
theorem MX: ∀s∈bG.flatten,fZ s=false∧(aF.any fun x=>decide (x=s))=true∧ ¬s=⟨#[110,117,109]⟩∧ ¬s=⟨#[110,97,109,101]⟩∧ ¬s=⟨#[63]⟩∧ ¬s=⟨#[117,43]⟩∧ ¬s=⟨#[117,45]⟩∧ ¬s=⟨#[126]⟩∧ ¬s=⟨#[33]⟩:=by decide
theorem N7 {s:ByteArray} (h:s∈lN):fZ s=false∧s∈aF∧ ¬s=⟨#[110,117,109]⟩∧ ¬s=⟨#[110,97,109,101]⟩∧ ¬s=⟨#[63]⟩∧ ¬s=⟨#[117,43]⟩∧ ¬s=⟨#[117,45]⟩∧ ¬s=⟨#[126]⟩∧ ¬s=⟨#[33]⟩:=by
 obtain ⟨h1,h2,h3⟩:=MX s h
 obtain ⟨x,hx,he⟩:=List.any_eq_true.1 h2
 have:=of_decide_eq_true he
 subst this
 exact ⟨h1,hx,h3⟩
theorem pX.next {mb:Nat} {l0:Vl} {rv:Rv} {n:Int} {w w':World} (h:pX mb l0 rv n w) (hb:Below w.heap.size w w'):pX mb l0 rv n w':=by
 cases rv with
 | ok v e=>obtain ⟨h1,vv,hm⟩:=h;exact ⟨h1,vv,hm.next hb⟩
 | bad c p=>obtain ⟨h1,vv,l,hm⟩:=h;exact ⟨h1,vv,l,hm.next hb⟩
 | no=>exact h.elim
theorem ev_room {l0:Vl} {a:Tr} {e:Asc} {m:Nat} (_ho:a.Ops) (hf:a.Fits) (he:kC e) (hlen:e.length+(need a+m)≤10000): ∀v e1,ev (dY l0) a e= .ok v e1→kC e1∧e1.length+m≤10000∧I64 v:=by
 intro v e1 h
 obtain ⟨h1,h2⟩:=qY (dY l0) (fun n=>(jc _).1) a e e1 v hf he h
 have h3:=oh (dY l0) a e e1 v h
 exact ⟨h2,by omega,h1⟩
theorem aaQ (mb:Nat) (l0:Vl) (p:Nat) (a b:Tr) (hoa:a.Ops) (hfa:a.Fits) (ha:zi mb l0 a) (hb:zi mb l0 b) {op:ByteArray} (hop:op∈lN) (hn1: ¬op=fV) (hn2: ¬op=jR):zi mb l0 (.bin op p a b):=by
 intro e kv vv w hlen he hin hm
 obtain ⟨k,ka,kb,rfl,hkm,hkb,hia,hib⟩:=hin
 obtain ⟨oa,na,rfl⟩:=hia.shape
 obtain ⟨ob,nb,rfl⟩:=hib.shape
 simp only [need] at hlen
 have hrm:=ev_room (m:=need b) (l0:=l0) hoa hfa he (by omega)
 show Calls Tryz.prog 67 #[.pointer (some ⟨mb,0,none⟩),.agg #[.string op,.int .i64 0,.string ⟨#[]⟩,.int .i64 p,.int .i64 0,.slice (some ⟨k,0,none⟩) 2 2]] w _
 obtain ⟨W,hW⟩: ∃W,W=w.alloc (.cells #[.string op,.int .i64 0,.string ⟨#[]⟩,.int .i64 p,.int .i64 0,.slice (some ⟨k,0,none⟩) 2 2] 30):=⟨_,rfl⟩
 have hb0:Below w.heap.size w W:=by rw [hW];exact (Below.refl _ _).alloc (Nat.le_refl _) _
 have HG:Hid (W.heap[w.heap.size]? =some (.cells #[.string op,.int .i64 0,.string ⟨#[]⟩,.int .i64 p,.int .i64 0,.slice (some ⟨k,0,none⟩) 2 2] 30 (0,0))):=Lib.hid (by rw [hW];exact heap_alloc_last w _)
 have hlt:=hm.lt
 have HB0:Hid (Ch mb w W∧mb<w.heap.size∧w.heap.size<W.heap.size):=Lib.hid ⟨Ch.of_below hb0 (Nat.le_of_lt hlt),hlt,lt_of_heap HG.out⟩
 have hmW:=hm.next hb0
 obtain ⟨c0,c1,c2,c3⟩:=hmW.cells
 obtain ⟨⟨z0,z1,z2,z3,z4,z5⟩,_⟩:=aA HG.out
 have HW:=Lib.hid hW
 have hkW:W.heap[k]? =some (.cells #[.string a.op,.int .i64 a.val,.string a.nm,.int .i64 a.pos,.int .i64 a.aG,.slice oa na na,.string b.op,.int .i64 b.val,.string b.nm,.int .i64 b.pos,.int .i64 b.aG,.slice ob nb nb] 30 (0,0)):=(hb0.block k (lt_of_heap hkb)).trans hkb
 obtain ⟨q0,q1,q2,q3,q4,q5,q6,q7,q8,q9,qa,qb⟩:=xu hkW
 have HK:=Lib.hid hkW
 have SK:=Lib.hid hkm
 have xK:Hid (Calls Tryz.prog 67 #[.pointer (some ⟨mb,0,none⟩),.agg #[.string a.op,.int .i64 a.val,.string a.nm,.int .i64 a.pos,.int .i64 a.aG,.slice oa na na]] W fun x w'=>Dt mb l0 (ev (dY l0) a e) x w'∧Ch mb W w'):=Lib.hid (ha e _ vv W (by omega) he (hia.kept (fun k _ hs=>hb0.block k hs) a _) hmW)
 have Z5:Hid (b.kL W (fun i=>i≠mb) (.slice ob nb nb)):=Lib.hid (hib.kept (fun k _ hs=>hb0.block k hs) b _)
 have SQ:Hid (∀n1 X Y,pX mb l0 (ev (dY l0) a e) n1 X→Ch mb W X→Below X.heap.size X Y→Calls Tryz.prog 67 #[.pointer (some ⟨mb,0,none⟩),.agg #[.string b.op,.int .i64 b.val,.string b.nm,.int .i64 b.pos,.int .i64 b.aG,.slice ob nb nb]] Y fun x w'=>Dt mb l0 ((ev (dY l0) a e).then fun _ e1=>ev (dY l0) b e1) x w'∧Ch mb Y w'):=Lib.hid (fun n1 X Y h1 h2 h3=>xw hb (h1.next h3) (fun v e1 hv=>⟨(hrm v e1 hv).1,(hrm v e1 hv).2.1⟩) ((Z5.out.kept (fun k hk hs=>h2.2 k hs hk) b _).kept (fun k _ hs=>h3.block k hs) b _))
 have HTW:Hid (∀n1 X,pX mb l0 (ev (dY l0) a e) n1 X→ ∀n2 Y,pX mb l0 ((ev (dY l0) a e).then fun _ e1=>ev (dY l0) b e1) n2 Y→Calls Tryz.prog 101 #[.pointer (some ⟨mb,0,none⟩),.string op,.int .i64 n1,.int .i64 n2,.int .i64 p] Y fun x w'=>Dt mb l0 (ev (dY l0) (.bin op p a b) e) x w'∧Ch mb Y w'):=Lib.hid (fun n1 X h1 n2 Y h2=>by
  have h:=OA hop hn1 hn2 h2 n1 p
  have e1:ev (dY l0) (.bin op p a b) e=(((ev (dY l0) a e).then fun _ e1=>ev (dY l0) b e1).then fun u e2=>gq op p n1 u e2):=by
   rw [Rv.tX,tV h1 (fun v e1=>(ev (dY l0) b e1).then fun u e2=>gq op p v u e2)]
   simp only [ev,if_neg hn1,if_neg hn2]
  rw [e1]
  exact h)
 obtain ⟨g0,g1,g2,g3,g4,g5,g6,g7,g8⟩:=N7 hop
 have HAS:Hid (∀X,Calls Tryz.prog 76 #[.string op] X fun x w'=>x= .returned (.bool false)∧w'=X):=Lib.hid (fun X=>by
  have h:=uI op (Or.inr g1) X
  rw [g0] at h
  exact h)
 have t0:=aX (l:=[110,117,109]) g2
 have t1:=aX (l:=[110,97,109,101]) g3
 have t2:=aX (l:=[63]) g4
 have t3:=aX (l:=[117,43]) g5
 have t4:=aX (l:=[117,45]) g6
 have t5:=aX (l:=[126]) g7
 have t6:=aX (l:=[33]) g8
 have t7:=aX (l:=[38,38]) hn1
 have t8:=aX (l:=[124,124]) hn2
 clear hm hb0 hW hmW he hlen hrm ha hb hkb hia hib hkW hkm hoa hfa g0 g1 g2 g3 g4 g5 g6 g7 g8 hop hn1 hn2
 go_enter Tryz.func67,Tryz.ntmps67
 go_upto_region 1 with fail
 rw [←HW.out]
 go_wp2_with fail
 refine (HAS.out _).mono ?_
 rintro x w1 ⟨rfl,rfl⟩
 go_wp2_with fail
 refine xK.out.mono ?_
 rintro x w2 ⟨⟨n1,rfl,hv⟩,hc⟩
 have HV:=Lib.hid hv
 have HC2:=Lib.hid hc
 have HG2:Hid (w2.heap[w.heap.size]? =some (.cells #[.string op,.int .i64 0,.string ⟨#[]⟩,.int .i64 p,.int .i64 0,.slice (some ⟨k,0,none⟩) 2 2] 30 (0,0))∧w.heap.size≠mb):=Lib.hid ⟨iC HG.out hc (by have:=HB0.out.2.1;omega),by have:=HB0.out.2.1;omega⟩
 have ZQ:Hid (w2.heap[k]? =some (.cells #[.string a.op,.int .i64 a.val,.string a.nm,.int .i64 a.pos,.int .i64 a.aG,.slice oa na na,.string b.op,.int .i64 b.val,.string b.nm,.int .i64 b.pos,.int .i64 b.aG,.slice ob nb nb] 30 (0,0))):=Lib.hid (iC HK.out hc SK.out)
 clear z0 z1 z2 z3 z4 z5 q0 q1 q2 q3 q4 q5 q6 q7 q8 q9 qa qb c0 c1 c2 c3
 obtain ⟨⟨z0,z1,z2,z3,z4,z5⟩,_⟩:=aA HG2.out.1
 clear hv hc xK
 go_wp2_with fail
 clear z0 z1 z2 z3 z4 z5
 refine Reg2.aJ (fun Lq u X=>Ch mb w2 X∧(Lq 9=false→Below w2.heap.size w2 X)∧(Lq 9=true→Lq 12=false→ ∃n2,u 9= .int .i64 n2∧pX mb l0 ((ev (dY l0) a e).then fun _ e1=>ev (dY l0) b e1) n2 X)∧(Lq 12=true→ ∃n3,u 12= .int .i64 n3∧pX mb l0 (ev (dY l0) (.bin op p a b) e) n3 X)∧(Lq 13=true→u 13=u 12)) (fun j=>([some (.pointer (some ⟨mb,0,none⟩)),some (.pointer (some ⟨w.heap.size,0,none⟩)),some (.string op),some (.int .i64 n1),some (.pointer (some ⟨mb,0,none⟩)),some (.pointer (some ⟨w.heap.size,5,none⟩)),some (.slice (some ⟨k,0,none⟩) 2 2),some (.pointer (some ⟨k,6,none⟩)),some (.agg #[.string b.op,.int .i64 b.val,.string b.nm,.int .i64 b.pos,.int .i64 b.aG,.slice ob nb nb]),none,some (.pointer (some ⟨w.heap.size,3,none⟩)),some (.int .i64 p),none,none]:List (Option Value)).getD j none) (by kernel_rfl) (by kernel_rfl) (by kernel_rfl) (by kernel_rfl) ?iY ?rsE ?iW
 case iY=>exact ⟨Ch.of_below (Below.refl _ _).drew (Nat.le_of_lt HV.out.ne),fun _=>(Below.refl _ _).drew,fun h=>(by cases h),fun h=>(by cases h),fun h=>(by cases h)⟩
 case rsE=>
  refine Reg2.au.plain rfl (fun L u T X hL hz hS hk K hK=>?_) ?_
  ·have g0:=hk.old 0 rfl
   have hK:=hK _ X hS (fun _ hx=>Option.some.inj hx)
   clear hk hz hL
   go_simp
   exact hK
  refine Reg2.au.plain rfl (fun L u T X hL hz hS hk K hK=>?_) ?_
  ·have g3:=hk.old 3 rfl
   have hK:=hK _ X hS (fun _ hx=>Option.some.inj hx)
   clear hk hz hL
   go_simp
   exact hK
  refine Reg2.au.plain rfl (fun L u T X hL hz hS hk K hK=>?_) ?_
  ·have g165:=hk.val 1 165 rfl
   obtain ⟨⟨z0,z1,z2,z3,z4,z5⟩,_⟩:=aA (iC HG2.out.1 hS.1 HG2.out.2)
   have hK:=hK _ X hS (fun _ hx=>Option.some.inj hx)
   clear hk hz hL hS
   go_simp
   exact hK
  refine Reg2.au.plain rfl (fun L u T X hL hz hS hk K hK=>?_) ?_
  ·have g7:=hk.old 7 rfl
   have hK:=hK _ X hS (fun _ hx=>Option.some.inj hx)
   clear hk hz hL
   go_simp
   exact hK
  refine Reg2.au.plain rfl (fun L u T X hL hz hS hk K hK=>?_) ?_
  ·have g0:=hk.old 0 rfl
   have hK:=hK _ X hS (fun _ hx=>Option.some.inj hx)
   clear hk hz hL
   go_simp
   exact hK
  refine Reg2.au.plain rfl (fun L u T X hL hz hS hk K hK=>?_) ?_
  ·have g3:=hk.old 3 rfl
   have hK:=hK _ X hS (fun _ hx=>Option.some.inj hx)
   clear hk hz hL
   go_simp
   exact hK
  refine Reg2.au.plain rfl (fun L u T X hL hz hS hk K hK=>?_) ?_
  ·have g169:=hk.val 5 169 rfl
   obtain ⟨⟨z0,z1,z2,z3,z4,z5⟩,_⟩:=aA (iC HG2.out.1 hS.1 HG2.out.2)
   have hK:=hK _ X hS (fun _ hx=>Option.some.inj hx)
   clear hk hz hL hS
   go_simp
   exact hK
  refine Reg2.au.plain rfl (fun L u T X hL hz hS hk K hK=>?_) ?_
  ·have g170:=hk.val 6 170 rfl
   have hK:=hK _ X hS (fun _ hx=>Option.some.inj hx)
   clear hk hz hL
   go_simp
   exact hK
  refine Reg2.au.plain rfl (fun L u T X hL hz hS hk K hK=>?_) ?_
  ·have g171:=hk.val 7 171 rfl
   obtain ⟨q0,q1,q2,q3,q4,q5,q6,q7,q8,q9,qa,qb⟩:=xu (iC ZQ.out hS.1 SK.out)
   have hK:=hK _ X hS (fun _ hx=>Option.some.inj hx)
   clear hk hz hL hS
   go_simp
   exact hK
  refine Reg2.au.plain rfl (fun L u T X hL hz hS hk K hK=>?_) ?_
  ·have g168:=hk.val 4 168 rfl
   have g172:=hk.val 8 172 rfl
   have hP:=hS.2.1 hL
   have h12:L 12=false:=hz 12 (by kernel_rfl)
   have h13:L 13=false:=hz 13 (by kernel_rfl)
   clear hk hz
   go_simp
   refine (SQ.out n1 w2 X HV.out HC2.out hP).mono ?_
   rintro x w' ⟨⟨n2,rfl,hv⟩,hc⟩
   exact hK (.int .i64 n2) w' ⟨hS.1.trans hc,fun h=>(by rw [Reg2.upd_same] at h;cases h),fun _ _=>⟨n2,by rw [Reg2.upd_same],hv⟩,fun h=>(by rw [Reg2.upd_ne _ _ (by decide),h12] at h;cases h),fun h=>(by rw [Reg2.upd_ne _ _ (by decide),h13] at h;cases h)⟩ (fun _ hx=>(by cases hx))
  refine Reg2.au.plain rfl (fun L u T X hL hz hS hk K hK=>?_) ?_
  ·have g3:=hk.old 3 rfl
   have hK:=hK _ X hS (fun _ hx=>Option.some.inj hx)
   clear hk hz hL
   go_simp
   exact hK
  refine Reg2.au.plain rfl (fun L u T X hL hz hS hk K hK=>?_) ?_
  ·have g174:=hk.val 10 174 rfl
   obtain ⟨⟨z0,z1,z2,z3,z4,z5⟩,_⟩:=aA (iC HG2.out.1 hS.1 HG2.out.2)
   have hK:=hK _ X hS (fun _ hx=>Option.some.inj hx)
   clear hk hz hL hS
   go_simp
   exact hK
  refine Reg2.au.plain rfl (fun L u T X hL hz hS hk K hK=>?_) ?_
  ·have g164:=hk.val 0 164 rfl
   have g166:=hk.val 2 166 rfl
   have g167:=hk.val 3 167 rfl
   obtain ⟨g173,l173⟩:=hk.any 9 173
   have g175:=hk.val 11 175 rfl
   have h13:L 13=false:=hz 13 (by kernel_rfl)
   obtain ⟨n2,hu,hv⟩:=hS.2.2.1 l173 hL
   rw [hu] at g173
   clear hk hz
   go_simp
   refine (HTW.out n1 w2 HV.out n2 X hv).mono ?_
   rintro x w' ⟨⟨n3,rfl,h3⟩,hc⟩
   exact hK (.int .i64 n3) w' ⟨hS.1.trans hc,fun h=>(by rw [Reg2.upd_ne _ _ (by decide),l173] at h;cases h),fun _ h=>(by rw [Reg2.upd_same] at h;cases h),fun _=>⟨n3,by rw [Reg2.upd_same],h3⟩,fun h=>(by rw [Reg2.upd_ne _ _ (by decide),h13] at h;cases h)⟩ (fun _ hx=>(by cases hx))
  refine Reg2.au.plain rfl (fun L u T X hL hz hS hk K hK=>?_) ?_
  ·obtain ⟨g176,l176⟩:=hk.any 12 176
   have hK:=hK (u 12) X ⟨hS.1,fun h=>hS.2.1 (by rw [Reg2.upd_ne _ _ (by decide)] at h;exact h),fun h h'=>(by rw [Reg2.upd_ne _ _ (by decide)] at h h'⊢;exact hS.2.2.1 h h'),fun h=>(by rw [Reg2.upd_ne _ _ (by decide)] at h⊢;exact hS.2.2.2.1 h),fun _=>(by rw [Reg2.upd_same,Reg2.upd_ne _ _ (by decide)])⟩ (fun _ hx=>(by cases hx))
   clear hk hz hL hS
   go_simp
   exact hK
  exact Reg2.au.nil
 case iW=>
  intro L u w1 hL hS hI
  have e0:=hI 0 (by decide) _ rfl
  have e1:=hI 1 (by decide) _ rfl
  have e2:=hI 2 (by decide) _ rfl
  have e3:=hI 3 (by decide) _ rfl
  have e4:=hI 4 (by decide) _ rfl
  have e5:=hI 5 (by decide) _ rfl
  have e6:=hI 6 (by decide) _ rfl
  have e7:=hI 7 (by decide) _ rfl
  have e8:=hI 8 (by decide) _ rfl
  have e10:=hI 10 (by decide) _ rfl
  have e11:=hI 11 (by decide) _ rfl
  clear hI
  simp only [Reg2.aK,Act.put,List.setIfInBounds_toArray,List.set_cons_succ,List.set_cons_zero,Nat.zero_add,Nat.reduceAdd,e0,e1,e2,e3,e4,e5,e6,e7,e8,e10,e11]
  clear e0 e1 e2 e3 e4 e5 e6 e7 e8 e10 e11
  obtain ⟨n3,hu3,hv3⟩:=hS.2.2.2.1 (hL 12 (by decide))
  have Tq:=hS.2.2.2.2 (hL 13 (by decide))
  rw [Tq,hu3]
  have Nr:=Lib.hid hv3
  have Na:=Lib.hid (HB0.out.1.trans (HC2.out.trans hS.1))
  clear hv3 hS hL Tq hu3
  go_wp2_with fail
  go_ret
  exact ⟨⟨_,rfl,Nr.out⟩,Na.out⟩
theorem aaR (mb:Nat) (l0:Vl) (p:Nat) (a b:Tr) (hoa:a.Ops) (hfa:a.Fits) (ha:zi mb l0 a) (hb:zi mb l0 b):zi mb l0 (.bin ⟨#[38,38]⟩ p a b):=by
 intro e kv vv w hlen he hin hm
 obtain ⟨k,ka,kb,rfl,hkm,hkb,hia,hib⟩:=hin
 obtain ⟨oa,na,rfl⟩:=hia.shape
 obtain ⟨ob,nb,rfl⟩:=hib.shape
 simp only [need] at hlen
 have hrm:=ev_room (m:=need b) (l0:=l0) hoa hfa he (by omega)
 show Calls Tryz.prog 67 #[.pointer (some ⟨mb,0,none⟩),.agg #[.string ⟨#[38,38]⟩,.int .i64 0,.string ⟨#[]⟩,.int .i64 p,.int .i64 0,.slice (some ⟨k,0,none⟩) 2 2]] w _
 obtain ⟨W,hW⟩: ∃W,W=w.alloc (.cells #[.string ⟨#[38,38]⟩,.int .i64 0,.string ⟨#[]⟩,.int .i64 p,.int .i64 0,.slice (some ⟨k,0,none⟩) 2 2] 30):=⟨_,rfl⟩
 have hb0:Below w.heap.size w W:=by rw [hW];exact (Below.refl _ _).alloc (Nat.le_refl _) _
 have HG:Hid (W.heap[w.heap.size]? =some (.cells #[.string ⟨#[38,38]⟩,.int .i64 0,.string ⟨#[]⟩,.int .i64 p,.int .i64 0,.slice (some ⟨k,0,none⟩) 2 2] 30 (0,0))):=Lib.hid (by rw [hW];exact heap_alloc_last w _)
 have hlt:=hm.lt
 have HB0:Hid (Ch mb w W∧mb<w.heap.size∧w.heap.size<W.heap.size):=Lib.hid ⟨Ch.of_below hb0 (Nat.le_of_lt hlt),hlt,lt_of_heap HG.out⟩
 have hmW:=hm.next hb0
 obtain ⟨c0,c1,c2,c3⟩:=hmW.cells
 obtain ⟨⟨z0,z1,z2,z3,z4,z5⟩,_⟩:=aA HG.out
 have HW:=Lib.hid hW
 have hkW:W.heap[k]? =some (.cells #[.string a.op,.int .i64 a.val,.string a.nm,.int .i64 a.pos,.int .i64 a.aG,.slice oa na na,.string b.op,.int .i64 b.val,.string b.nm,.int .i64 b.pos,.int .i64 b.aG,.slice ob nb nb] 30 (0,0)):=(hb0.block k (lt_of_heap hkb)).trans hkb
 obtain ⟨q0,q1,q2,q3,q4,q5,q6,q7,q8,q9,qa,qb⟩:=xu hkW
 have HK:=Lib.hid hkW
 have SK:=Lib.hid hkm
 have xK:Hid (Calls Tryz.prog 67 #[.pointer (some ⟨mb,0,none⟩),.agg #[.string a.op,.int .i64 a.val,.string a.nm,.int .i64 a.pos,.int .i64 a.aG,.slice oa na na]] W fun x w'=>Dt mb l0 (ev (dY l0) a e) x w'∧Ch mb W w'):=Lib.hid (ha e _ vv W (by omega) he (hia.kept (fun k _ hs=>hb0.block k hs) a _) hmW)
 have Z5:Hid (b.kL W (fun i=>i≠mb) (.slice ob nb nb)):=Lib.hid (hib.kept (fun k _ hs=>hb0.block k hs) b _)
 have SQ:Hid (∀n1 X Y,pX mb l0 (ev (dY l0) a e) n1 X→Ch mb W X→Below X.heap.size X Y→Calls Tryz.prog 67 #[.pointer (some ⟨mb,0,none⟩),.agg #[.string b.op,.int .i64 b.val,.string b.nm,.int .i64 b.pos,.int .i64 b.aG,.slice ob nb nb]] Y fun x w'=>Dt mb l0 ((ev (dY l0) a e).then fun _ e1=>ev (dY l0) b e1) x w'∧Ch mb Y w'):=Lib.hid (fun n1 X Y h1 h2 h3=>xw hb (h1.next h3) (fun v e1 hv=>⟨(hrm v e1 hv).1,(hrm v e1 hv).2.1⟩) ((Z5.out.kept (fun k hk hs=>h2.2 k hs hk) b _).kept (fun k _ hs=>h3.block k hs) b _))
 have DF:ev (dY l0) (.bin ⟨#[38,38]⟩ p a b) e=(ev (dY l0) a e).then fun v e1=>if v=0 then .ok 0 e1 else (ev (dY l0) b e1).then fun u e2=>ig eX u e2:=by
  show ev (dY l0) (.bin fV p a b) e=_
  simp only [ev,if_true]
 have HST:Hid (∀n1 X,pX mb l0 (ev (dY l0) a e) n1 X→n1=0→pX mb l0 (ev (dY l0) (.bin ⟨#[38,38]⟩ p a b) e) 0 X):=Lib.hid (fun n1 X h h0=>by
  rw [DF]
  exact h.map 0 _ (fun v e1 _ hn=>by subst hn;exact if_pos h0))
 have HGO:Hid (∀n1 X,pX mb l0 (ev (dY l0) a e) n1 X→ ¬n1=0→ ∀n2 Y,pX mb l0 ((ev (dY l0) a e).then fun _ e1=>ev (dY l0) b e1) n2 Y→pX mb l0 (ev (dY l0) (.bin ⟨#[38,38]⟩ p a b) e) (if n2≠0 then 1 else 0) Y):=Lib.hid (fun n1 X h h0 n2 Y h2=>by
  rw [DF, ←tV h (fun v e1=>if v=0 then .ok 0 e1 else (ev (dY l0) b e1).then fun u e2=>ig eX u e2)]
  simp only [if_neg h0]
  rw [←Rv.tX]
  exact h2.map _ _ (fun v e1 _ hn=>by subst hn;rfl))
 clear DF
 clear hm hb0 hW hmW he hlen hrm ha hb hkb hia hib hkW hkm hoa hfa
 go_enter Tryz.func67,Tryz.ntmps67
 go_upto_region 1 with fail
 rw [←HW.out]
 go_wp2_with fail
 refine (XF _).mono ?_
 rintro x w1 ⟨rfl,rfl⟩
 go_wp2_with fail
 refine xK.out.mono ?_
 rintro x w2 ⟨⟨n1,rfl,hv⟩,hc⟩
 have HV:=Lib.hid hv
 have HC2:=Lib.hid hc
 have HG2:Hid (w2.heap[w.heap.size]? =some (.cells #[.string ⟨#[38,38]⟩,.int .i64 0,.string ⟨#[]⟩,.int .i64 p,.int .i64 0,.slice (some ⟨k,0,none⟩) 2 2] 30 (0,0))∧w.heap.size≠mb):=Lib.hid ⟨iC HG.out hc (by have:=HB0.out.2.1;omega),by have:=HB0.out.2.1;omega⟩
 have ZQ:Hid (w2.heap[k]? =some (.cells #[.string a.op,.int .i64 a.val,.string a.nm,.int .i64 a.pos,.int .i64 a.aG,.slice oa na na,.string b.op,.int .i64 b.val,.string b.nm,.int .i64 b.pos,.int .i64 b.aG,.slice ob nb nb] 30 (0,0))):=Lib.hid (iC HK.out hc SK.out)
 clear z0 z1 z2 z3 z4 z5 q0 q1 q2 q3 q4 q5 q6 q7 q8 q9 qa qb c0 c1 c2 c3
 obtain ⟨⟨z0,z1,z2,z3,z4,z5⟩,_⟩:=aA HG2.out.1
 obtain ⟨q0,q1,q2,q3,q4,q5,q6,q7,q8,q9,qa,qb⟩:=xu ZQ.out
 clear hv hc xK
 by_cases h1:n1=0
 ·have HQ:Hid (n1=0):=Lib.hid h1
  have HN:=Lib.hid (HST.out n1 w2 HV.out HQ.out)
  subst h1
  go_wp2_with fail
  refine (dF _ w2).mono ?_
  rintro e w3 ⟨rfl,rfl⟩
  go_wp2_with fail
  go_ret
  exact ⟨⟨_,rfl,HN.out⟩,HB0.out.1.trans HC2.out⟩
 ·have HQ:Hid (¬n1=0):=Lib.hid h1
  have hz1:(n1==0)=false:=by simpa using h1
  go_wp2_with fail
  refine (SQ.out n1 w2 w2 HV.out HC2.out (Below.refl _ _)).mono ?_
  rintro x w3 ⟨⟨n2,rfl,hv3⟩,hc3⟩
  have Na:=Lib.hid (HC2.out.trans hc3)
  have HN:=Lib.hid (HGO.out n1 w2 HV.out HQ.out n2 w3 hv3)
  clear z0 z1 z2 z3 z4 z5 q0 q1 q2 q3 q4 q5 q6 q7 q8 q9 qa qb hv3 hc3
  by_cases h2:n2=0
  ·subst h2
   go_wp2_with fail
   refine (dF _ w3).mono ?_
   rintro e w4 ⟨rfl,rfl⟩
   go_wp2_with fail
   go_ret
   exact ⟨⟨_,rfl,HN.out⟩,HB0.out.1.trans Na.out⟩
  ·have hz2:(n2==0)=false:=by simpa using h2
   have Fb:=HN.out
   rw [if_pos h2] at Fb
   have SH:=Lib.hid Fb
   clear HN Fb
   go_wp2_with fail
   refine (dF _ w3).mono ?_
   rintro e w4 ⟨rfl,rfl⟩
   go_wp2_with fail
   go_ret
   exact ⟨⟨_,rfl,SH.out⟩,HB0.out.1.trans Na.out⟩
theorem ev_or (mb:Nat) (l0:Vl) (p:Nat) (a b:Tr) (hoa:a.Ops) (hfa:a.Fits) (ha:zi mb l0 a) (hb:zi mb l0 b):zi mb l0 (.bin ⟨#[124,124]⟩ p a b):=by
 intro e kv vv w hlen he hin hm
 obtain ⟨k,ka,kb,rfl,hkm,hkb,hia,hib⟩:=hin
 obtain ⟨oa,na,rfl⟩:=hia.shape
 obtain ⟨ob,nb,rfl⟩:=hib.shape
 simp only [need] at hlen
 have hrm:=ev_room (m:=need b) (l0:=l0) hoa hfa he (by omega)
 show Calls Tryz.prog 67 #[.pointer (some ⟨mb,0,none⟩),.agg #[.string ⟨#[124,124]⟩,.int .i64 0,.string ⟨#[]⟩,.int .i64 p,.int .i64 0,.slice (some ⟨k,0,none⟩) 2 2]] w _
 obtain ⟨W,hW⟩: ∃W,W=w.alloc (.cells #[.string ⟨#[124,124]⟩,.int .i64 0,.string ⟨#[]⟩,.int .i64 p,.int .i64 0,.slice (some ⟨k,0,none⟩) 2 2] 30):=⟨_,rfl⟩
 have hb0:Below w.heap.size w W:=by rw [hW];exact (Below.refl _ _).alloc (Nat.le_refl _) _
 have HG:Hid (W.heap[w.heap.size]? =some (.cells #[.string ⟨#[124,124]⟩,.int .i64 0,.string ⟨#[]⟩,.int .i64 p,.int .i64 0,.slice (some ⟨k,0,none⟩) 2 2] 30 (0,0))):=Lib.hid (by rw [hW];exact heap_alloc_last w _)
 have hlt:=hm.lt
 have HB0:Hid (Ch mb w W∧mb<w.heap.size∧w.heap.size<W.heap.size):=Lib.hid ⟨Ch.of_below hb0 (Nat.le_of_lt hlt),hlt,lt_of_heap HG.out⟩
 have hmW:=hm.next hb0
 obtain ⟨c0,c1,c2,c3⟩:=hmW.cells
 obtain ⟨⟨z0,z1,z2,z3,z4,z5⟩,_⟩:=aA HG.out
 have HW:=Lib.hid hW
 have hkW:W.heap[k]? =some (.cells #[.string a.op,.int .i64 a.val,.string a.nm,.int .i64 a.pos,.int .i64 a.aG,.slice oa na na,.string b.op,.int .i64 b.val,.string b.nm,.int .i64 b.pos,.int .i64 b.aG,.slice ob nb nb] 30 (0,0)):=(hb0.block k (lt_of_heap hkb)).trans hkb
 obtain ⟨q0,q1,q2,q3,q4,q5,q6,q7,q8,q9,qa,qb⟩:=xu hkW
 have HK:=Lib.hid hkW
 have SK:=Lib.hid hkm
 have xK:Hid (Calls Tryz.prog 67 #[.pointer (some ⟨mb,0,none⟩),.agg #[.string a.op,.int .i64 a.val,.string a.nm,.int .i64 a.pos,.int .i64 a.aG,.slice oa na na]] W fun x w'=>Dt mb l0 (ev (dY l0) a e) x w'∧Ch mb W w'):=Lib.hid (ha e _ vv W (by omega) he (hia.kept (fun k _ hs=>hb0.block k hs) a _) hmW)
 have Z5:Hid (b.kL W (fun i=>i≠mb) (.slice ob nb nb)):=Lib.hid (hib.kept (fun k _ hs=>hb0.block k hs) b _)
 have SQ:Hid (∀n1 X Y,pX mb l0 (ev (dY l0) a e) n1 X→Ch mb W X→Below X.heap.size X Y→Calls Tryz.prog 67 #[.pointer (some ⟨mb,0,none⟩),.agg #[.string b.op,.int .i64 b.val,.string b.nm,.int .i64 b.pos,.int .i64 b.aG,.slice ob nb nb]] Y fun x w'=>Dt mb l0 ((ev (dY l0) a e).then fun _ e1=>ev (dY l0) b e1) x w'∧Ch mb Y w'):=Lib.hid (fun n1 X Y h1 h2 h3=>xw hb (h1.next h3) (fun v e1 hv=>⟨(hrm v e1 hv).1,(hrm v e1 hv).2.1⟩) ((Z5.out.kept (fun k hk hs=>h2.2 k hs hk) b _).kept (fun k _ hs=>h3.block k hs) b _))
 have DF:ev (dY l0) (.bin ⟨#[124,124]⟩ p a b) e=(ev (dY l0) a e).then fun v e1=>if v=0 then (ev (dY l0) b e1).then fun u e2=>ig eX u e2 else .ok 1 e1:=by
  show ev (dY l0) (.bin jR p a b) e=_
  simp only [ev,if_neg (show¬(jR:ByteArray)=fV by decide),if_true]
 have HST:Hid (∀n1 X,pX mb l0 (ev (dY l0) a e) n1 X→ ¬n1=0→pX mb l0 (ev (dY l0) (.bin ⟨#[124,124]⟩ p a b) e) 1 X):=Lib.hid (fun n1 X h h0=>by
  rw [DF]
  exact h.map 1 _ (fun v e1 _ hn=>by subst hn;exact if_neg h0))
 have HGO:Hid (∀n1 X,pX mb l0 (ev (dY l0) a e) n1 X→n1=0→ ∀n2 Y,pX mb l0 ((ev (dY l0) a e).then fun _ e1=>ev (dY l0) b e1) n2 Y→pX mb l0 (ev (dY l0) (.bin ⟨#[124,124]⟩ p a b) e) (if n2≠0 then 1 else 0) Y):=Lib.hid (fun n1 X h h0 n2 Y h2=>by
  rw [DF, ←tV h (fun v e1=>if v=0 then (ev (dY l0) b e1).then fun u e2=>ig eX u e2 else .ok 1 e1)]
  simp only [if_pos h0]
  rw [←Rv.tX]
  exact h2.map _ _ (fun v e1 _ hn=>by subst hn;rfl))
 clear DF
 clear hm hb0 hW hmW he hlen hrm ha hb hkb hia hib hkW hkm hoa hfa
 go_enter Tryz.func67,Tryz.ntmps67
 go_upto_region 1 with fail
 rw [←HW.out]
 go_wp2_with fail
 refine (aaF _).mono ?_
 rintro x w1 ⟨rfl,rfl⟩
 go_wp2_with fail
 refine xK.out.mono ?_
 rintro x w2 ⟨⟨n1,rfl,hv⟩,hc⟩
 have HV:=Lib.hid hv
 have HC2:=Lib.hid hc
 have HG2:Hid (w2.heap[w.heap.size]? =some (.cells #[.string ⟨#[124,124]⟩,.int .i64 0,.string ⟨#[]⟩,.int .i64 p,.int .i64 0,.slice (some ⟨k,0,none⟩) 2 2] 30 (0,0))∧w.heap.size≠mb):=Lib.hid ⟨iC HG.out hc (by have:=HB0.out.2.1;omega),by have:=HB0.out.2.1;omega⟩
 have ZQ:Hid (w2.heap[k]? =some (.cells #[.string a.op,.int .i64 a.val,.string a.nm,.int .i64 a.pos,.int .i64 a.aG,.slice oa na na,.string b.op,.int .i64 b.val,.string b.nm,.int .i64 b.pos,.int .i64 b.aG,.slice ob nb nb] 30 (0,0))):=Lib.hid (iC HK.out hc SK.out)
 clear z0 z1 z2 z3 z4 z5 q0 q1 q2 q3 q4 q5 q6 q7 q8 q9 qa qb c0 c1 c2 c3
 obtain ⟨⟨z0,z1,z2,z3,z4,z5⟩,_⟩:=aA HG2.out.1
 obtain ⟨q0,q1,q2,q3,q4,q5,q6,q7,q8,q9,qa,qb⟩:=xu ZQ.out
 clear hv hc xK
 by_cases h1:n1=0
 ·have HQ:Hid (n1=0):=Lib.hid h1
  have hz1:(n1==0)=true:=by simpa using h1
  go_wp2_with fail
  refine (SQ.out n1 w2 w2 HV.out HC2.out (Below.refl _ _)).mono ?_
  rintro x w3 ⟨⟨n2,rfl,hv3⟩,hc3⟩
  have Na:=Lib.hid (HC2.out.trans hc3)
  have HN:=Lib.hid (HGO.out n1 w2 HV.out HQ.out n2 w3 hv3)
  clear z0 z1 z2 z3 z4 z5 q0 q1 q2 q3 q4 q5 q6 q7 q8 q9 qa qb hv3 hc3
  by_cases h2:n2=0
  ·subst h2
   go_wp2_with fail
   refine (dF _ w3).mono ?_
   rintro e w4 ⟨rfl,rfl⟩
   go_wp2_with fail
   go_ret
   exact ⟨⟨_,rfl,HN.out⟩,HB0.out.1.trans Na.out⟩
  ·have hz2:(n2==0)=false:=by simpa using h2
   have Fb:=HN.out
   rw [if_pos h2] at Fb
   have SH:=Lib.hid Fb
   clear HN Fb
   go_wp2_with fail
   refine (dF _ w3).mono ?_
   rintro e w4 ⟨rfl,rfl⟩
   go_wp2_with fail
   go_ret
   exact ⟨⟨_,rfl,SH.out⟩,HB0.out.1.trans Na.out⟩
 ·have HQ:Hid (¬n1=0):=Lib.hid h1
  have hz1:(n1==0)=false:=by simpa using h1
  have HN:=Lib.hid (HST.out n1 w2 HV.out HQ.out)
  go_wp2_with fail
  refine (dF _ w2).mono ?_
  rintro e w3 ⟨rfl,rfl⟩
  go_wp2_with fail
  go_ret
  exact ⟨⟨_,rfl,HN.out⟩,HB0.out.1.trans HC2.out⟩
theorem XT (mb:Nat) (l0:Vl) (p:Nat) (a b c:Tr) (hoa:a.Ops) (hfa:a.Fits) (ha:zi mb l0 a) (hb:zi mb l0 b) (hc:zi mb l0 c):zi mb l0 (.cond ⟨#[63]⟩ p a b c):=by
 intro e kv vv w hlen he hin hm
 obtain ⟨k,ka,kb,kc,rfl,hkm,hkb,hia,hib,hic⟩:=hin
 obtain ⟨oa,na,rfl⟩:=hia.shape
 obtain ⟨ob,nb,rfl⟩:=hib.shape
 obtain ⟨oc,nc,rfl⟩:=hic.shape
 simp only [need] at hlen
 have hrm:=ev_room (m:=need b) (l0:=l0) hoa hfa he (by omega)
 have aag:=ev_room (m:=need c) (l0:=l0) hoa hfa he (by omega)
 show Calls Tryz.prog 67 #[.pointer (some ⟨mb,0,none⟩),.agg #[.string ⟨#[63]⟩,.int .i64 0,.string ⟨#[]⟩,.int .i64 p,.int .i64 0,.slice (some ⟨k,0,none⟩) 3 3]] w _
 obtain ⟨W,hW⟩: ∃W,W=w.alloc (.cells #[.string ⟨#[63]⟩,.int .i64 0,.string ⟨#[]⟩,.int .i64 p,.int .i64 0,.slice (some ⟨k,0,none⟩) 3 3] 30):=⟨_,rfl⟩
 have hb0:Below w.heap.size w W:=by rw [hW];exact (Below.refl _ _).alloc (Nat.le_refl _) _
 have HG:Hid (W.heap[w.heap.size]? =some (.cells #[.string ⟨#[63]⟩,.int .i64 0,.string ⟨#[]⟩,.int .i64 p,.int .i64 0,.slice (some ⟨k,0,none⟩) 3 3] 30 (0,0))):=Lib.hid (by rw [hW];exact heap_alloc_last w _)
 have hlt:=hm.lt
 have HB0:Hid (Ch mb w W∧mb<w.heap.size∧w.heap.size<W.heap.size):=Lib.hid ⟨Ch.of_below hb0 (Nat.le_of_lt hlt),hlt,lt_of_heap HG.out⟩
 have hmW:=hm.next hb0
 obtain ⟨c0,c1,c2,c3⟩:=hmW.cells
 obtain ⟨⟨z0,z1,z2,z3,z4,z5⟩,_⟩:=aA HG.out
 have HW:=Lib.hid hW
 have hkW:W.heap[k]? =some (.cells #[.string a.op,.int .i64 a.val,.string a.nm,.int .i64 a.pos,.int .i64 a.aG,.slice oa na na,.string b.op,.int .i64 b.val,.string b.nm,.int .i64 b.pos,.int .i64 b.aG,.slice ob nb nb,.string c.op,.int .i64 c.val,.string c.nm,.int .i64 c.pos,.int .i64 c.aG,.slice oc nc nc] 30 (0,0)):=(hb0.block k (lt_of_heap hkb)).trans hkb
 obtain ⟨⟨q0,q1,q2,q3,q4,q5⟩,_⟩:=PK hkW
 have HK:=Lib.hid hkW
 have SK:=Lib.hid hkm
 have xK:Hid (Calls Tryz.prog 67 #[.pointer (some ⟨mb,0,none⟩),.agg #[.string a.op,.int .i64 a.val,.string a.nm,.int .i64 a.pos,.int .i64 a.aG,.slice oa na na]] W fun x w'=>Dt mb l0 (ev (dY l0) a e) x w'∧Ch mb W w'):=Lib.hid (ha e _ vv W (by omega) he (hia.kept (fun k _ hs=>hb0.block k hs) a _) hmW)
 have Z5:Hid (b.kL W (fun i=>i≠mb) (.slice ob nb nb)):=Lib.hid (hib.kept (fun k _ hs=>hb0.block k hs) b _)
 have HIC:Hid (c.kL W (fun i=>i≠mb) (.slice oc nc nc)):=Lib.hid (hic.kept (fun k _ hs=>hb0.block k hs) c _)
 have SQ:Hid (∀n1 X,pX mb l0 (ev (dY l0) a e) n1 X→Ch mb W X→ ¬n1=0→Calls Tryz.prog 67 #[.pointer (some ⟨mb,0,none⟩),.agg #[.string b.op,.int .i64 b.val,.string b.nm,.int .i64 b.pos,.int .i64 b.aG,.slice ob nb nb]] X fun x w'=>Dt mb l0 (ev (dY l0) (.cond ⟨#[63]⟩ p a b c) e) x w'∧Ch mb X w'):=Lib.hid (fun n1 X h1 h2 h0=>by
  have e1:ev (dY l0) (.cond ⟨#[63]⟩ p a b c) e=(ev (dY l0) a e).then fun _ e1=>ev (dY l0) b e1:=by
   show (ev (dY l0) a e).then (fun v e1=>if v=0 then ev (dY l0) c e1 else ev (dY l0) b e1)=_
   rw [←tV h1 (fun v e1=>if v=0 then ev (dY l0) c e1 else ev (dY l0) b e1)]
   simp only [if_neg h0]
  rw [e1]
  exact xw hb h1 (fun v e1 hv=>⟨(hrm v e1 hv).1,(hrm v e1 hv).2.1⟩) (Z5.out.kept (fun k hk hs=>h2.2 k hs hk) b _))
 have HEC:Hid (∀n1 X,pX mb l0 (ev (dY l0) a e) n1 X→Ch mb W X→n1=0→Calls Tryz.prog 67 #[.pointer (some ⟨mb,0,none⟩),.agg #[.string c.op,.int .i64 c.val,.string c.nm,.int .i64 c.pos,.int .i64 c.aG,.slice oc nc nc]] X fun x w'=>Dt mb l0 (ev (dY l0) (.cond ⟨#[63]⟩ p a b c) e) x w'∧Ch mb X w'):=Lib.hid (fun n1 X h1 h2 h0=>by
  have e1:ev (dY l0) (.cond ⟨#[63]⟩ p a b c) e=(ev (dY l0) a e).then fun _ e1=>ev (dY l0) c e1:=by
   show (ev (dY l0) a e).then (fun v e1=>if v=0 then ev (dY l0) c e1 else ev (dY l0) b e1)=_
   rw [←tV h1 (fun v e1=>if v=0 then ev (dY l0) c e1 else ev (dY l0) b e1)]
   simp only [if_pos h0]
  rw [e1]
  exact xw hc h1 (fun v e1 hv=>⟨(aag v e1 hv).1,(aag v e1 hv).2.1⟩) (HIC.out.kept (fun k hk hs=>h2.2 k hs hk) c _))
 clear hm hb0 hW hmW he hlen hrm aag ha hb hc hkb hia hib hic hkW hkm hoa hfa
 go_enter Tryz.func67,Tryz.ntmps67
 go_upto_region 1 with fail
 rw [←HW.out]
 go_wp2_with fail
 refine (XB _).mono ?_
 rintro x w1 ⟨rfl,rfl⟩
 go_wp2_with fail
 refine xK.out.mono ?_
 rintro x w2 ⟨⟨n1,rfl,hv⟩,hc⟩
 have HV:=Lib.hid hv
 have HC2:=Lib.hid hc
 have hg2:=iC HG.out hc (show w.heap.size≠mb by have:=HB0.out.2.1;omega)
 have hk2:=iC HK.out hc SK.out
 clear z0 z1 z2 z3 z4 z5 q0 q1 q2 q3 q4 q5 c0 c1 c2 c3
 obtain ⟨⟨z0,z1,z2,z3,z4,z5⟩,_⟩:=aA hg2
 obtain ⟨_,⟨q6,q7,q8,q9,qa,qb⟩,qc,qd,qe,qf,qg,qh⟩:=PK hk2
 clear hv hc xK hg2 hk2
 by_cases h1:n1=0
 ·have HEX:=Lib.hid (HEC.out n1 w2 HV.out HC2.out h1)
  subst h1
  clear SQ HEC q6 q7 q8 q9 qa qb
  go_wp2_with fail
  refine HEX.out.mono ?_
  rintro x w3 ⟨⟨n2,rfl,hv3⟩,hc3⟩
  have HN:=Lib.hid hv3
  have Na:=Lib.hid (HC2.out.trans hc3)
  clear hv3 hc3
  go_wp2_with fail
  go_ret
  exact ⟨⟨_,rfl,HN.out⟩,HB0.out.1.trans Na.out⟩
 ·have HEX:=Lib.hid (SQ.out n1 w2 HV.out HC2.out h1)
  have hz1:(n1==0)=false:=by simpa using h1
  clear SQ HEC qc qd qe qf qg qh
  go_wp2_with fail
  refine HEX.out.mono ?_
  rintro x w3 ⟨⟨n2,rfl,hv3⟩,hc3⟩
  have HN:=Lib.hid hv3
  have Na:=Lib.hid (HC2.out.trans hc3)
  clear hv3 hc3
  go_wp2_with fail
  go_ret
  exact ⟨⟨_,rfl,HN.out⟩,HB0.out.1.trans Na.out⟩
theorem Uz {w:World} {B mb:Nat} {v:Value} {l:Vl} (h:w.ownsRow B 96 2 v l.length (fE l)) (hB:mb<B):(∀b o n cap,v= .slice (some ⟨b,o,none⟩) n cap→b≠mb)∧ ∃va vc,v= .slice va l.length vc:=by
 rcases h.2 with ⟨rfl,h0⟩ | ⟨g,cap,cur,rfl,hlo,hg,_⟩
 ·rw [h0]
  exact ⟨fun b o n cap e=>(by cases e),none,0,rfl⟩
 ·refine ⟨fun b o n c e=>?_,_,_,rfl⟩
  simp only [Value.slice.injEq,Option.some.injEq,Addr.mk.injEq] at e
  have:=e.1.1
  omega
theorem rX {w:World} {v:Value} {l:Vl} (h:VS w v l): ∃a c,v= .slice a l.length c:=by
 rcases h with ⟨rfl,x,y,h⟩ | ⟨x,y,z,h,_⟩
 ·exact ⟨x,y,h⟩
 ·exact ⟨_,z,h⟩
theorem vG.put {mb:Nat} {vv v:Value} {l l':Vl} {c q:Nat} {w:World} (h:vG mb vv l c q w) (hv:VS w v l') (hap: ∀b o n cap,v= .slice (some ⟨b,o,none⟩) n cap→b≠mb):vG mb v l' c q (w.setCell ⟨mb,0,none⟩ v):=by
 refine ⟨?_,?_,fun b o n cap e=>Or.inr (hap b o n cap e)⟩
 ·have:=aU h.blk 0 v
  simpa [maA] using this
 ·exact hv.but (fun b _ o cap e=>Below.heap_setCell _ _ _ _ (hap b o _ cap e)) (by simp only [World.setCell,Array.size_modify];exact Nat.le_refl _)
theorem aaG (w:World):Calls Tryz.prog 76 #[.string ⟨#[61]⟩] w fun x w'=>x= .returned (.bool true)∧w'=w:=by
 go_enter Tryz.func76,Tryz.ntmps76
 go_wp2
 go_ret
 exact ⟨rfl,rfl⟩
theorem QU: ∀s∈aF,fZ s=true→ ¬s=⟨#[61]⟩→ ¬bF s=ak∧2≤s.size∧s.size≤3∧s.extract 0 (s.size - 1)=bF s:=by decide
theorem aaN (mb:Nat) (l0:Vl) (hl0:l0.length≤5000) (s:ByteArray) (p q:Nat) (a:Tr) (hoa:a.Ops) (hfa:a.Fits) (ha:zi mb l0 a):zi mb l0 (.eF ⟨#[61]⟩ s p q a):=by
 intro e kv vv w hlen he hin hm
 obtain ⟨k,ka,rfl,hkm,hkb,hia⟩:=hin
 obtain ⟨oa,na,rfl⟩:=hia.shape
 simp only [need] at hlen
 have hrm:=ev_room (m:=1) (l0:=l0) hoa hfa he (by omega)
 show Calls Tryz.prog 67 #[.pointer (some ⟨mb,0,none⟩),.agg #[.string ⟨#[61]⟩,.int .i64 0,.string s,.int .i64 p,.int .i64 q,.slice (some ⟨k,0,none⟩) 1 1]] w _
 obtain ⟨W,hW⟩: ∃W,W=w.alloc (.cells #[.string ⟨#[61]⟩,.int .i64 0,.string s,.int .i64 p,.int .i64 q,.slice (some ⟨k,0,none⟩) 1 1] 30):=⟨_,rfl⟩
 have hb0:Below w.heap.size w W:=by rw [hW];exact (Below.refl _ _).alloc (Nat.le_refl _) _
 have HG:Hid (W.heap[w.heap.size]? =some (.cells #[.string ⟨#[61]⟩,.int .i64 0,.string s,.int .i64 p,.int .i64 q,.slice (some ⟨k,0,none⟩) 1 1] 30 (0,0))):=Lib.hid (by rw [hW];exact heap_alloc_last w _)
 have hlt:=hm.lt
 have HB0:Hid (Ch mb w W∧mb<w.heap.size∧w.heap.size<W.heap.size):=Lib.hid ⟨Ch.of_below hb0 (Nat.le_of_lt hlt),hlt,lt_of_heap HG.out⟩
 have hmW:=hm.next hb0
 obtain ⟨c0,c1,c2,c3⟩:=hmW.cells
 obtain ⟨⟨z0,z1,z2,z3,z4,z5⟩,_⟩:=aA HG.out
 have HW:=Lib.hid hW
 have hkW:W.heap[k]? =some (.cells #[.string a.op,.int .i64 a.val,.string a.nm,.int .i64 a.pos,.int .i64 a.aG,.slice oa na na] 30 (0,0)):=(hb0.block k (lt_of_heap hkb)).trans hkb
 obtain ⟨⟨q0,q1,q2,q3,q4,q5⟩,_⟩:=aA hkW
 have HK:=Lib.hid hkW
 have SK:=Lib.hid hkm
 have sN:Hid (a.kL W (fun i=>i≠mb) (.slice oa na na)):=Lib.hid (hia.kept (fun k _ hs=>hb0.block k hs) a _)
 have xK:Hid (Calls Tryz.prog 67 #[.pointer (some ⟨mb,0,none⟩),.agg #[.string a.op,.int .i64 a.val,.string a.nm,.int .i64 a.pos,.int .i64 a.aG,.slice oa na na]] W fun x w'=>Dt mb l0 (ev (dY l0) a e) x w'∧Ch mb W w'):=Lib.hid (ha e _ vv W (by omega) he sN.out hmW)
 have Gj:Hid (∀y e1 Qn,ev (dY l0) a e= .ok y e1→ ∀X,vG mb Qn (iw s (gW y) (iK e1 l0)) 0 0 X→pX mb l0 (ev (dY l0) (.eF ⟨#[61]⟩ s p q a) e) y X):=Lib.hid (fun y e1 Qn h X hx=>by
  simp only [ev]
  rw [if_pos (by decide),h]
  exact ⟨rfl,Qn,hx⟩)
 have ZO:Hid (∀c r,ev (dY l0) a e= .bad c r→ev (dY l0) (.eF ⟨#[61]⟩ s p q a) e= .bad c r):=Lib.hid (fun c r h=>by
  simp only [ev]
  rw [if_pos (by decide),h]
  rfl)
 have HRM:=Lib.hid hrm
 clear hm hb0 hW hmW he hlen hrm ha hkb hia hkW hkm hoa hfa
 go_enter Tryz.func67,Tryz.ntmps67
 go_upto_region 1 with fail
 rw [←HW.out]
 go_wp2_with fail
 refine (aaG _).mono ?_
 rintro x w1 ⟨rfl,rfl⟩
 go_wp2_with fail
 refine xK.out.mono ?_
 rintro x w2 ⟨⟨n1,rfl,hv⟩,hc⟩
 have Rf:Hid (w2.heap[w.heap.size]? =some (.cells #[.string ⟨#[61]⟩,.int .i64 0,.string s,.int .i64 p,.int .i64 q,.slice (some ⟨k,0,none⟩) 1 1] 30 (0,0))∧w.heap.size≠mb):=Lib.hid ⟨iC HG.out hc (by have:=HB0.out.2.1;omega),by have:=HB0.out.2.1;omega⟩
 have HCX:=Lib.hid (HB0.out.1.trans hc)
 clear z0 z1 z2 z3 z4 z5 q0 q1 q2 q3 q4 q5 c0 c1 c2 c3
 obtain ⟨⟨z0,z1,z2,z3,z4,z5⟩,_⟩:=aA Rf.out.1
 clear hc xK
 obtain ⟨rv,rC⟩: ∃rv,ev (dY l0) a e=rv:=⟨_,rfl⟩
 rw [rC] at hv
 have HQ:=Lib.hid rC
 cases rv with
 | no=>exact hv.elim
 | bad c r=>
  obtain ⟨hc0,ZT,l2,hm2⟩:=hv
  obtain ⟨c0,c1,c2,c3⟩:=hm2.cells
  have hq:((c:Int)==0)=false:=by simp;omega
  have HF:Hid (pX mb l0 (ev (dY l0) (.eF ⟨#[61]⟩ s p q a) e) n1 w2):=Lib.hid (by rw [ZO.out c r rC];exact ⟨hc0,ZT,l2,hm2⟩)
  clear hm2 hc0 rC
  go_wp2_with fail
  go_ret
  exact ⟨⟨_,rfl,HF.out⟩,HCX.out⟩
 | ok y ea=>
  obtain ⟨rfl,ZT,hm2⟩:=hv
  obtain ⟨c0,c1,c2,c3⟩:=hm2.cells
  obtain ⟨vd,vc,rfl⟩:=rX hm2.vs
  obtain ⟨r1,r2,r3⟩:=HRM.out n1 ea rC
  have HM:=Lib.hid hm2
  have HY:=Lib.hid r3
  have HL:=Lib.hid (AL l0 ea hl0 (by omega))
  clear hm2 rC r1 r2 r3
  go_wp2_with fail
  clear z0 z1 z2 z3 z4 z5 c0 c1 c2 c3
  refine Reg.aJ (fun Lq u Y=>Ch mb w2 Y∧(Lq 12=false→Below w2.heap.size w2 Y)∧(Lq 9=true→Lq 12=false→(∃va vc,u 9= .slice va (iw s (gW n1) (iK ea l0)).length vc)∧VS Y (u 9) (iw s (gW n1) (iK ea l0))∧ ∀b o n cap,u 9= .slice (some ⟨b,o,none⟩) n cap→b≠mb)∧(Lq 12=true→ ∃Qn,vG mb Qn (iw s (gW n1) (iK ea l0)) 0 0 Y)) (fun j=>([some (.pointer (some ⟨mb,0,none⟩)),some (.pointer (some ⟨mb,0,none⟩)),some (.pointer (some ⟨mb,0,none⟩)),some (.pointer (some ⟨mb,0,none⟩)),some (.slice vd (iK ea l0).length vc),some (.pointer (some ⟨w.heap.size,2,none⟩)),some (.string s),some (.int .i64 n1),some (.string (gW n1)),none,some (.pointer (some ⟨mb,0,none⟩)),some (.pointer (some ⟨mb,0,none⟩)),none]:List (Option Value)).getD j none) (by kernel_rfl) (by kernel_rfl) (by kernel_rfl) (by kernel_rfl) ?iY ?rsE ?iW
  case iY=>exact ⟨Ch.of_below (Below.refl _ _).drew (Nat.le_of_lt HM.out.lt),fun _=>(Below.refl _ _).drew,fun h=>(by cases h),fun h=>(by cases h)⟩
  case rsE=>
   refine Reg.au.plain rfl (fun L u T Y hL hz hS hk K hK=>?_) ?_
   ·have g0:=hk.old 0 rfl
    have hK:=hK _ Y hS (fun _ hx=>Option.some.inj hx)
    clear hk hz hL
    go_simp
    exact hK
   refine Reg.au.plain rfl (fun L u T Y hL hz hS hk K hK=>?_) ?_
   ·have g0:=hk.old 0 rfl
    have hK:=hK _ Y hS (fun _ hx=>Option.some.inj hx)
    clear hk hz hL
    go_simp
    exact hK
   refine Reg.au.plain rfl (fun L u T Y hL hz hS hk K hK=>?_) ?_
   ·have g55:=hk.val 1 55 rfl
    have hP:=hS.2.1 (hz 12 (by kernel_rfl))
    have mJ:=HM.out.next hP
    obtain ⟨c0,c1,c2,c3⟩:=mJ.cells
    have hml:=mJ.lt
    have hK:=hK _ Y hS (fun _ hx=>Option.some.inj hx)
    clear hk hz hL hS mJ hP
    go_simp
    exact hK
   refine Reg.au.plain rfl (fun L u T Y hL hz hS hk K hK=>?_) ?_
   ·have g56:=hk.val 2 56 rfl
    have hP:=hS.2.1 (hz 12 (by kernel_rfl))
    have mJ:=HM.out.next hP
    obtain ⟨c0,c1,c2,c3⟩:=mJ.cells
    have hml:=mJ.lt
    have hK:=hK _ Y hS (fun _ hx=>Option.some.inj hx)
    clear hk hz hL hS mJ hP
    go_simp
    exact hK
   refine Reg.au.plain rfl (fun L u T Y hL hz hS hk K hK=>?_) ?_
   ·have g57:=hk.val 3 57 rfl
    have hP:=hS.2.1 (hz 12 (by kernel_rfl))
    have mJ:=HM.out.next hP
    obtain ⟨c0,c1,c2,c3⟩:=mJ.cells
    have hml:=mJ.lt
    have hK:=hK _ Y hS (fun _ hx=>Option.some.inj hx)
    clear hk hz hL hS mJ hP
    go_simp
    exact hK
   refine Reg.au.plain rfl (fun L u T Y hL hz hS hk K hK=>?_) ?_
   ·have g3:=hk.old 3 rfl
    have hK:=hK _ Y hS (fun _ hx=>Option.some.inj hx)
    clear hk hz hL
    go_simp
    exact hK
   refine Reg.au.plain rfl (fun L u T Y hL hz hS hk K hK=>?_) ?_
   ·have g59:=hk.val 5 59 rfl
    obtain ⟨⟨z0,z1,z2,z3,z4,z5⟩,_⟩:=aA (iC Rf.out.1 hS.1 Rf.out.2)
    have hK:=hK _ Y hS (fun _ hx=>Option.some.inj hx)
    clear hk hz hL hS
    go_simp
    exact hK
   refine Reg.au.plain rfl (fun L u T Y hL hz hS hk K hK=>?_) ?_
   ·have g6:=hk.old 6 rfl
    have hK:=hK _ Y hS (fun _ hx=>Option.some.inj hx)
    clear hk hz hL
    go_simp
    exact hK
   refine Reg.au.plain rfl (fun L u T Y hL hz hS hk K hK=>?_) ?_
   ·have g61:=hk.val 7 61 rfl
    have h12:L 12=false:=hz 12 (by kernel_rfl)
    have h9:L 9=false:=hz 9 (by kernel_rfl)
    have hP:=hS.2.1 h12
    clear hk hz
    go_simp
    refine (I7 n1 Y HY.out).mono ?_
    rintro x w' ⟨rfl,hb⟩
    exact hK _ w' ⟨hS.1.trans (Ch.of_below hb (Nat.le_of_lt (HM.out.next hP).lt)),fun _=>hP.trans (hb.mono hP.size),fun h=>(by rw [Reg.upd_ne _ _ (by decide),h9] at h;cases h),fun h=>(by rw [Reg.upd_ne _ _ (by decide),h12] at h;cases h)⟩ (fun _ hx=>Option.some.inj hx)
   refine Reg.au.plain rfl (fun L u T Y hL hz hS hk K hK=>?_) ?_
   ·have g58:=hk.val 4 58 rfl
    have g60:=hk.val 6 60 rfl
    have g62:=hk.val 8 62 rfl
    have h12:L 12=false:=hz 12 (by kernel_rfl)
    have hP:=hS.2.1 h12
    have mJ:=HM.out.next hP
    clear hk hz
    go_simp
    refine (Ba _ (iK ea l0) s (gW n1) Y mJ.vs HL.out).mono ?_
    rintro x w' ⟨v,rfl,ho,hb⟩
    obtain ⟨hap,hsh⟩:=Uz ho mJ.lt
    exact hK v w' ⟨hS.1.trans (Ch.of_below hb (Nat.le_of_lt mJ.lt)),fun _=>hP.trans (hb.mono hP.size),fun _ _=>(by rw [Reg.upd_same];exact ⟨hsh,VS.xJ ho,hap⟩),fun h=>(by rw [Reg.upd_ne _ _ (by decide),h12] at h;cases h)⟩ (fun _ hx=>(by cases hx))
   refine Reg.au.plain rfl (fun L u T Y hL hz hS hk K hK=>?_) ?_
   ·have g54:=hk.val 0 54 rfl
    have hP:=hS.2.1 (hz 12 (by kernel_rfl))
    have mJ:=HM.out.next hP
    obtain ⟨c0,c1,c2,c3⟩:=mJ.cells
    have hml:=mJ.lt
    have hK:=hK _ Y hS (fun _ hx=>Option.some.inj hx)
    clear hk hz hL hS mJ hP
    go_simp
    exact hK
   refine Reg.au.plain rfl (fun L u T Y hL hz hS hk K hK=>?_) ?_
   ·have g64:=hk.val 10 64 rfl
    have hP:=hS.2.1 (hz 12 (by kernel_rfl))
    have mJ:=HM.out.next hP
    obtain ⟨c0,c1,c2,c3⟩:=mJ.cells
    have hml:=mJ.lt
    have hK:=hK _ Y hS (fun _ hx=>Option.some.inj hx)
    clear hk hz hL hS mJ hP
    go_simp
    exact hK
   refine Reg.au.plain rfl (fun L u T Y hL hz hS hk K hK=>?_) ?_
   ·obtain ⟨g63,l63⟩:=hk.any 9 63
    have ZV:=hk.val 11 65 rfl
    obtain ⟨⟨va,vc',hu⟩,hv,hap⟩:=hS.2.2.1 l63 hL
    have hP:=hS.2.1 hL
    have mJ:=HM.out.next hP
    obtain ⟨c0,c1,c2,c3⟩:=mJ.cells
    have f0:=mJ.fr 0
    have hml:=mJ.lt
    have hK:=hK undef (Y.setCell ⟨mb,0,none⟩ (u 9)) ⟨hS.1.trans (Ch.set _ _ _),fun h=>(by rw [Reg.upd_same] at h;cases h),fun _ h=>(by rw [Reg.upd_same] at h;cases h),fun _=>⟨_,mJ.put hv hap⟩⟩ (fun _ hx=>(by cases hx))
    rw [hu] at g63 hK
    clear hk hz hL hS mJ hP hv hap hu
    go_simp
    exact hK
   exact Reg.au.nil
  case iW=>
   intro L u w9 hL hS hI
   have e0:=hI 0 (by decide) _ rfl
   have e1:=hI 1 (by decide) _ rfl
   have e2:=hI 2 (by decide) _ rfl
   have e3:=hI 3 (by decide) _ rfl
   have e4:=hI 4 (by decide) _ rfl
   have e5:=hI 5 (by decide) _ rfl
   have e6:=hI 6 (by decide) _ rfl
   have e7:=hI 7 (by decide) _ rfl
   have e8:=hI 8 (by decide) _ rfl
   have e10:=hI 10 (by decide) _ rfl
   have e11:=hI 11 (by decide) _ rfl
   clear hI
   simp only [Reg.aK,Act.put,List.setIfInBounds_toArray,List.set_cons_succ,List.set_cons_zero,Nat.zero_add,Nat.reduceAdd,e0,e1,e2,e3,e4,e5,e6,e7,e8,e10,e11]
   clear e0 e1 e2 e3 e4 e5 e6 e7 e8 e10 e11
   obtain ⟨Qn,hm'⟩:=hS.2.2.2 (hL 12 (by decide))
   have HM':=Lib.hid hm'
   have NI:=Lib.hid (HCX.out.trans hS.1)
   clear hm' hS hL
   go_wp2_with fail
   go_ret
   exact ⟨⟨_,rfl,Gj.out _ _ _ HQ.out _ HM'.out⟩,NI.out⟩
theorem Ve (mb:Nat) (l0:Vl) (hl0:l0.length≤5000) (s:ByteArray) (p q:Nat) (a:Tr) (hoa:a.Ops) (hfa:a.Fits) (ha:zi mb l0 a) (hr0:l0.lS) (hz0: ∀x∈l0,x.2.size≤9223372036854775807) {op:ByteArray} (hop:op∈aF) (Xh:fZ op=true) (hne: ¬op=⟨#[61]⟩):zi mb l0 (.eF op s p q a):=by
 intro e kv vv w hlen he hin hm
 obtain ⟨k,ka,rfl,hkm,hkb,hia⟩:=hin
 obtain ⟨oa,na,rfl⟩:=hia.shape
 simp only [need] at hlen
 have hrm:=ev_room (m:=1) (l0:=l0) hoa hfa he (by omega)
 show Calls Tryz.prog 67 #[.pointer (some ⟨mb,0,none⟩),.agg #[.string op,.int .i64 0,.string s,.int .i64 p,.int .i64 q,.slice (some ⟨k,0,none⟩) 1 1]] w _
 obtain ⟨W,hW⟩: ∃W,W=w.alloc (.cells #[.string op,.int .i64 0,.string s,.int .i64 p,.int .i64 q,.slice (some ⟨k,0,none⟩) 1 1] 30):=⟨_,rfl⟩
 have hb0:Below w.heap.size w W:=by rw [hW];exact (Below.refl _ _).alloc (Nat.le_refl _) _
 have HG:Hid (W.heap[w.heap.size]? =some (.cells #[.string op,.int .i64 0,.string s,.int .i64 p,.int .i64 q,.slice (some ⟨k,0,none⟩) 1 1] 30 (0,0))):=Lib.hid (by rw [hW];exact heap_alloc_last w _)
 have hlt:=hm.lt
 have HB0:Hid (Ch mb w W∧mb<w.heap.size∧w.heap.size<W.heap.size):=Lib.hid ⟨Ch.of_below hb0 (Nat.le_of_lt hlt),hlt,lt_of_heap HG.out⟩
 have hmW:=hm.next hb0
 obtain ⟨c0,c1,c2,c3⟩:=hmW.cells
 obtain ⟨⟨z0,z1,z2,z3,z4,z5⟩,_⟩:=aA HG.out
 have HW:=Lib.hid hW
 have hkW:W.heap[k]? =some (.cells #[.string a.op,.int .i64 a.val,.string a.nm,.int .i64 a.pos,.int .i64 a.aG,.slice oa na na] 30 (0,0)):=(hb0.block k (lt_of_heap hkb)).trans hkb
 obtain ⟨⟨q0,q1,q2,q3,q4,q5⟩,_⟩:=aA hkW
 have HK:=Lib.hid hkW
 have SK:=Lib.hid hkm
 have sN:Hid (a.kL W (fun i=>i≠mb) (.slice oa na na)):=Lib.hid (hia.kept (fun k _ hs=>hb0.block k hs) a _)
 obtain ⟨f0,f1,f2,f3⟩:=QU op hop Xh hne
 obtain ⟨b0,b1,b2⟩:bF op∈lN∧ ¬bF op=fV∧ ¬bF op=jR:=(Jd op hop Xh).resolve_left f0
 have Og:Hid (Calls Tryz.prog 100 #[.pointer (some ⟨mb,0,none⟩),.string s,.int .i64 p] W fun x w'=>Dt mb l0 (jZ (dY l0) s p e) x w'∧Ch mb W w'):=Lib.hid (ld_next hr0 hz0 hl0 he (by omega) hmW s p)
 have HEA:Hid (∀n0 X,pX mb l0 (jZ (dY l0) s p e) n0 X→Ch mb W X→Calls Tryz.prog 67 #[.pointer (some ⟨mb,0,none⟩),.agg #[.string a.op,.int .i64 a.val,.string a.nm,.int .i64 a.pos,.int .i64 a.aG,.slice oa na na]] X fun x w'=>Dt mb l0 ((jZ (dY l0) s p e).then fun _ e1=>ev (dY l0) a e1) x w'∧Ch mb X w'):=Lib.hid (fun n0 X h1 h2=>xw ha h1 (fun v e1 hv=>by rw [mX hv];exact ⟨he,by omega⟩) (sN.out.kept (fun k hk hs=>h2.2 k hs hk) a _))
 have HTW:Hid (∀n0 X,pX mb l0 (jZ (dY l0) s p e) n0 X→ ∀n1 Y,pX mb l0 ((jZ (dY l0) s p e).then fun _ e1=>ev (dY l0) a e1) n1 Y→Calls Tryz.prog 101 #[.pointer (some ⟨mb,0,none⟩),.string (op.extract 0 (op.size - 1)),.int .i64 n0,.int .i64 n1,.int .i64 q] Y fun x w'=>Dt mb l0 ((jZ (dY l0) s p e).then fun v e1=>(ev (dY l0) a e1).then fun u e2=>gq (bF op) q v u e2) x w'∧Ch mb Y w'):=Lib.hid (fun n0 X h1 n1 Y h2=>by
  have h:=OA b0 b1 b2 h2 n0 q
  have e0:(op.extract 0 (op.size - 1))=bF op:=f3
  have e1:((jZ (dY l0) s p e).then fun v e1=>(ev (dY l0) a e1).then fun u e2=>gq (bF op) q v u e2)=(((jZ (dY l0) s p e).then fun _ e1=>ev (dY l0) a e1).then fun u e2=>gq (bF op) q n0 u e2):=by
   rw [Rv.tX,tV h1 (fun v e1=>(ev (dY l0) a e1).then fun u e2=>gq (bF op) q v u e2)]
  rw [e0,e1]
  exact h)
 have heq:ev (dY l0) (.eF op s p q a) e=((jZ (dY l0) s p e).then fun v e1=>(ev (dY l0) a e1).then fun u e2=>gq (bF op) q v u e2).then fun x e3=> .ok x ((s,x)::e3):=by
  simp only [ev,if_neg f0,Rv.tX]
 have Gj:Hid (∀y ea Qn,((jZ (dY l0) s p e).then fun v e1=>(ev (dY l0) a e1).then fun u e2=>gq (bF op) q v u e2)= .ok y ea→ ∀X,vG mb Qn (iw s (gW y) (iK ea l0)) 0 0 X→pX mb l0 (ev (dY l0) (.eF op s p q a) e) y X):=Lib.hid (fun y ea Qn h X hx=>by
  rw [heq,h]
  exact ⟨rfl,Qn,hx⟩)
 have ZO:Hid (∀c r,((jZ (dY l0) s p e).then fun v e1=>(ev (dY l0) a e1).then fun u e2=>gq (bF op) q v u e2)= .bad c r→ev (dY l0) (.eF op s p q a) e= .bad c r):=Lib.hid (fun c r h=>by
  rw [heq,h]
  rfl)
 have HRM:Hid (∀y ea,((jZ (dY l0) s p e).then fun v e1=>(ev (dY l0) a e1).then fun u e2=>gq (bF op) q v u e2)= .ok y ea→I64 y∧ea.length≤10000):=Lib.hid (fun y ea h=>by
  obtain ⟨v,e1,h1,h2⟩:=Rv.then_ok h
  obtain ⟨u,e2,h3,h4⟩:=Rv.then_ok h2
  obtain ⟨i0,i1⟩:=Ny (fun n=>(jc _).1) h1 he
  have q1:=mX h1
  subst q1
  have q2:=l9 h4
  subst q2
  have q3:=oh (dY l0) a _ _ u h3
  exact ⟨Bv h4 i0,by omega⟩)
 have HAS:Hid (∀X,Calls Tryz.prog 76 #[.string op] X fun x w'=>x= .returned (.bool true)∧w'=X):=Lib.hid (fun X=>by
  have h:=uI op (Or.inr hop) X
  rw [Xh] at h
  exact h)
 have t0:=aX (l:=[61]) hne
 have s0:(2:Int)≤op.size:=by omega
 have s1:(op.size:Int)≤3:=by omega
 have aan:=Lib.hid (And.intro s0 s1)
 clear hm hb0 hW hmW he hlen hrm ha hkb hia hkW hkm hoa hfa heq hop Xh hne f0 f1 f2 f3 b0 b1 b2 hr0 hz0 s0 s1
 go_enter Tryz.func67,Tryz.ntmps67
 go_upto_region 1 with fail
 rw [←HW.out]
 go_wp2_with fail
 refine (HAS.out _).mono ?_
 rintro x w1 ⟨rfl,rfl⟩
 go_wp2_with fail
 refine Og.out.mono ?_
 rintro x w2 ⟨⟨n0,rfl,hv0⟩,hc0⟩
 have HV0:=Lib.hid hv0
 have HC2:=Lib.hid hc0
 have hg2:=iC HG.out hc0 (show w.heap.size≠mb by have:=HB0.out.2.1;omega)
 have hk2:=iC HK.out hc0 SK.out
 clear z0 z1 z2 z3 z4 z5 q0 q1 q2 q3 q4 q5 c0 c1 c2 c3 hv0
 obtain ⟨⟨z0,z1,z2,z3,z4,z5⟩,_⟩:=aA hg2
 obtain ⟨⟨q0,q1,q2,q3,q4,q5⟩,_⟩:=aA hk2
 clear hc0 hg2 hk2 Og
 go_wp2_with fail
 refine (HEA.out n0 w2 HV0.out HC2.out).mono ?_
 rintro x w3 ⟨⟨n1,rfl,hv⟩,hc⟩
 have Gf:=Lib.hid hv
 have jI:Hid (w3.heap[w.heap.size]? =some (.cells #[.string op,.int .i64 0,.string s,.int .i64 p,.int .i64 q,.slice (some ⟨k,0,none⟩) 1 1] 30 (0,0))∧w.heap.size≠mb):=Lib.hid ⟨iC HG.out (HC2.out.trans hc) (by have:=HB0.out.2.1;omega),by have:=HB0.out.2.1;omega⟩
 have Na:=Lib.hid (HB0.out.1.trans (HC2.out.trans hc))
 clear z0 z1 z2 z3 z4 z5 q0 q1 q2 q3 q4 q5
 obtain ⟨⟨z0,z1,z2,z3,z4,z5⟩,_⟩:=aA jI.out.1
 clear hv hc HEA
 go_wp2_with fail
 clear z0 z1 z2 z3 z4 z5
 refine Reg2.aJ (fun Lq u X=>Ch mb w3 X∧(Lq 12=false→Below w3.heap.size w3 X)∧(Lq 12=true→ ∃n3,u 12= .int .i64 n3∧pX mb l0 ((jZ (dY l0) s p e).then fun v e1=>(ev (dY l0) a e1).then fun u e2=>gq (bF op) q v u e2) n3 X)∧(Lq 13=true→u 13=u 12)) (fun j=>([some (.pointer (some ⟨mb,0,none⟩)),some (.pointer (some ⟨w.heap.size,0,none⟩)),some (.string op),some (.pointer (some ⟨w.heap.size,0,none⟩)),some (.string op),some (.int .i64 (op.size:Nat)),some (.int .i64 ((op.size:Int) - 1)),some (.string (op.extract 0 (op.size - 1))),some (.int .i64 n0),some (.int .i64 n1),some (.pointer (some ⟨w.heap.size,4,none⟩)),some (.int .i64 q),none,none]:List (Option Value)).getD j none) (by kernel_rfl) (by kernel_rfl) (by kernel_rfl) (by kernel_rfl) ?iY ?rsE ?iW
 case iY=>exact ⟨Ch.of_below (Below.refl _ _).drew (Nat.le_of_lt Gf.out.ne),fun _=>(Below.refl _ _).drew,fun h=>(by cases h),fun h=>(by cases h)⟩
 case rsE=>
  refine Reg2.au.plain rfl (fun L u T X hL hz hS hk K hK=>?_) ?_
  ·have g0:=hk.old 0 rfl
   have hK:=hK _ X hS (fun _ hx=>Option.some.inj hx)
   clear hk hz hL
   go_simp
   exact hK
  refine Reg2.au.plain rfl (fun L u T X hL hz hS hk K hK=>?_) ?_
  ·have g3:=hk.old 3 rfl
   have hK:=hK _ X hS (fun _ hx=>Option.some.inj hx)
   clear hk hz hL
   go_simp
   exact hK
  refine Reg2.au.plain rfl (fun L u T X hL hz hS hk K hK=>?_) ?_
  ·have g36:=hk.val 1 36 rfl
   obtain ⟨⟨z0,z1,z2,z3,z4,z5⟩,_⟩:=aA (iC jI.out.1 hS.1 jI.out.2)
   have hK:=hK _ X hS (fun _ hx=>Option.some.inj hx)
   clear hk hz hL hS
   go_simp
   exact hK
  refine Reg2.au.plain rfl (fun L u T X hL hz hS hk K hK=>?_) ?_
  ·have g3:=hk.old 3 rfl
   have hK:=hK _ X hS (fun _ hx=>Option.some.inj hx)
   clear hk hz hL
   go_simp
   exact hK
  refine Reg2.au.plain rfl (fun L u T X hL hz hS hk K hK=>?_) ?_
  ·have g38:=hk.val 3 38 rfl
   obtain ⟨⟨z0,z1,z2,z3,z4,z5⟩,_⟩:=aA (iC jI.out.1 hS.1 jI.out.2)
   have hK:=hK _ X hS (fun _ hx=>Option.some.inj hx)
   clear hk hz hL hS
   go_simp
   exact hK
  refine Reg2.au.plain rfl (fun L u T X hL hz hS hk K hK=>?_) ?_
  ·have g39:=hk.val 4 39 rfl
   obtain ⟨s0,s1⟩:=aan.out
   have s2:(0:Int)≤(op.size:Int) - 1:=by omega
   have s3:(op.size:Int) - 1≤(op.size:Int):=by omega
   have s4:(op.size:Int)≤9223372036854775807:=by omega
   have s5:(1:Int)≤(op.size:Int):=by omega
   have s6:1≤op.size:=by omega
   have hK:=hK _ X hS (fun _ hx=>Option.some.inj hx)
   clear hk hz hL hS
   go_simp
   exact hK
  refine Reg2.au.plain rfl (fun L u T X hL hz hS hk K hK=>?_) ?_
  ·have g40:=hk.val 5 40 rfl
   obtain ⟨s0,s1⟩:=aan.out
   have s2:(0:Int)≤(op.size:Int) - 1:=by omega
   have s3:(op.size:Int) - 1≤(op.size:Int):=by omega
   have s4:(op.size:Int)≤9223372036854775807:=by omega
   have s5:(1:Int)≤(op.size:Int):=by omega
   have s6:1≤op.size:=by omega
   have hK:=hK _ X hS (fun _ hx=>Option.some.inj hx)
   clear hk hz hL hS
   go_simp
   have sw:IntKind.i64.wrap ((op.size:Int) - 1)=(op.size:Int) - 1:=by unfold IntKind.wrap;simp [IntKind.signed,IntKind.bits];omega
   rw [sw]
   exact hK
  refine Reg2.au.plain rfl (fun L u T X hL hz hS hk K hK=>?_) ?_
  ·have g37:=hk.val 2 37 rfl
   have g41:=hk.val 6 41 rfl
   obtain ⟨s0,s1⟩:=aan.out
   have s2:(0:Int)≤(op.size:Int) - 1:=by omega
   have s3:(op.size:Int) - 1≤(op.size:Int):=by omega
   have s4:(op.size:Int)≤9223372036854775807:=by omega
   have s5:(1:Int)≤(op.size:Int):=by omega
   have s6:1≤op.size:=by omega
   have hK:=hK _ X hS (fun _ hx=>Option.some.inj hx)
   clear hk hz hL hS
   go_simp
   exact hK
  refine Reg2.au.plain rfl (fun L u T X hL hz hS hk K hK=>?_) ?_
  ·have g5:=hk.old 5 rfl
   have hK:=hK _ X hS (fun _ hx=>Option.some.inj hx)
   clear hk hz hL
   go_simp
   exact hK
  refine Reg2.au.plain rfl (fun L u T X hL hz hS hk K hK=>?_) ?_
  ·have g6:T[6]? =some (.int .i64 n1):=hk.later 13 6 (by kernel_rfl) (hz 13 (by kernel_rfl)) rfl
   have hK:=hK _ X hS (fun _ hx=>Option.some.inj hx)
   clear hk hz hL
   go_simp
   exact hK
  refine Reg2.au.plain rfl (fun L u T X hL hz hS hk K hK=>?_) ?_
  ·have g3:=hk.old 3 rfl
   have hK:=hK _ X hS (fun _ hx=>Option.some.inj hx)
   clear hk hz hL
   go_simp
   exact hK
  refine Reg2.au.plain rfl (fun L u T X hL hz hS hk K hK=>?_) ?_
  ·have YE:=hk.val 10 45 rfl
   obtain ⟨⟨z0,z1,z2,z3,z4,z5⟩,_⟩:=aA (iC jI.out.1 hS.1 jI.out.2)
   have hK:=hK _ X hS (fun _ hx=>Option.some.inj hx)
   clear hk hz hL hS
   go_simp
   exact hK
  refine Reg2.au.plain rfl (fun L u T X hL hz hS hk K hK=>?_) ?_
  ·have g35:=hk.val 0 35 rfl
   have g42:=hk.val 7 42 rfl
   have g43:=hk.val 8 43 rfl
   have ZW:=hk.val 9 44 rfl
   have g46:=hk.val 11 46 rfl
   have hP:=hS.2.1 hL
   have h13:L 13=false:=hz 13 (by kernel_rfl)
   clear hk hz
   go_simp
   refine (HTW.out n0 w2 HV0.out n1 X (Gf.out.next hP)).mono ?_
   rintro x w' ⟨⟨n3,rfl,h3⟩,hc⟩
   exact hK (.int .i64 n3) w' ⟨hS.1.trans hc,fun h=>(by rw [Reg2.upd_same] at h;cases h),fun _=>⟨n3,by rw [Reg2.upd_same],h3⟩,fun h=>(by rw [Reg2.upd_ne _ _ (by decide),h13] at h;cases h)⟩ (fun _ hx=>(by cases hx))
  refine Reg2.au.plain rfl (fun L u T X hL hz hS hk K hK=>?_) ?_
  ·obtain ⟨g47,l47⟩:=hk.any 12 47
   have hK:=hK (u 12) X ⟨hS.1,fun h=>hS.2.1 (by rw [Reg2.upd_ne _ _ (by decide)] at h;exact h),fun h=>(by rw [Reg2.upd_ne _ _ (by decide)] at h⊢;exact hS.2.2.1 h),fun _=>(by rw [Reg2.upd_same,Reg2.upd_ne _ _ (by decide)])⟩ (fun _ hx=>(by cases hx))
   clear hk hz hL hS
   go_simp
   exact hK
  exact Reg2.au.nil
 case iW=>
  intro L u w4 hL hS hI
  have e0:=hI 0 (by decide) _ rfl
  have e1:=hI 1 (by decide) _ rfl
  have e2:=hI 2 (by decide) _ rfl
  have e3:=hI 3 (by decide) _ rfl
  have e4:=hI 4 (by decide) _ rfl
  have e5:=hI 5 (by decide) _ rfl
  have e6:=hI 6 (by decide) _ rfl
  have e7:=hI 7 (by decide) _ rfl
  have e8:=hI 8 (by decide) _ rfl
  have e9:=hI 9 (by decide) _ rfl
  have e10:=hI 10 (by decide) _ rfl
  have e11:=hI 11 (by decide) _ rfl
  clear hI
  simp only [Reg2.aK,Act.put,List.setIfInBounds_toArray,List.set_cons_succ,List.set_cons_zero,Nat.zero_add,Nat.reduceAdd,e0,e1,e2,e3,e4,e5,e6,e7,e8,e9,e10,e11]
  clear e0 e1 e2 e3 e4 e5 e6 e7 e8 e9 e10 e11
  obtain ⟨n3,hu3,hv3⟩:=hS.2.2.1 (hL 12 (by decide))
  have Tq:=hS.2.2.2 (hL 13 (by decide))
  rw [Tq,hu3]
  have Nr:=Lib.hid hv3
  have Rf:Hid (w4.heap[w.heap.size]? =some (.cells #[.string op,.int .i64 0,.string s,.int .i64 p,.int .i64 q,.slice (some ⟨k,0,none⟩) 1 1] 30 (0,0))∧w.heap.size≠mb):=Lib.hid ⟨iC jI.out.1 hS.1 jI.out.2,jI.out.2⟩
  have HCX:=Lib.hid (Na.out.trans hS.1)
  clear hv3 hS hL Tq hu3 HTW Gf HV0
  obtain ⟨rv,rC⟩: ∃rv,((jZ (dY l0) s p e).then fun v e1=>(ev (dY l0) a e1).then fun u e2=>gq (bF op) q v u e2)=rv:=⟨_,rfl⟩
  have hv:=Nr.out
  rw [rC] at hv
  have HQ:=Lib.hid rC
  clear Nr
  cases rv with
  | no=>exact hv.elim
  | bad c r=>
   obtain ⟨hc0,ZT,l2,hm2⟩:=hv
   obtain ⟨c0,c1,c2,c3⟩:=hm2.cells
   have hq:((c:Int)==0)=false:=by simp;omega
   have HF:Hid (pX mb l0 (ev (dY l0) (.eF op s p q a) e) n3 w4):=Lib.hid (by rw [ZO.out c r rC];exact ⟨hc0,ZT,l2,hm2⟩)
   clear hm2 hc0 rC
   go_wp2_with fail
   go_ret
   exact ⟨⟨_,rfl,HF.out⟩,HCX.out⟩
  | ok y ea=>
   obtain ⟨rfl,ZT,hm2⟩:=hv
   obtain ⟨c0,c1,c2,c3⟩:=hm2.cells
   obtain ⟨vd,vc,rfl⟩:=rX hm2.vs
   obtain ⟨r1,r2⟩:=HRM.out n3 ea rC
   have HM:=Lib.hid hm2
   have HY:=Lib.hid r1
   have HL:=Lib.hid (AL l0 ea hl0 r2)
   clear hm2 rC r1 r2
   go_wp2_with fail
   clear c0 c1 c2 c3
   refine Reg.aJ (fun Lq u Y=>Ch mb w4 Y∧(Lq 12=false→Below w4.heap.size w4 Y)∧(Lq 9=true→Lq 12=false→(∃va vc,u 9= .slice va (iw s (gW n3) (iK ea l0)).length vc)∧VS Y (u 9) (iw s (gW n3) (iK ea l0))∧ ∀b o n cap,u 9= .slice (some ⟨b,o,none⟩) n cap→b≠mb)∧(Lq 12=true→ ∃Qn,vG mb Qn (iw s (gW n3) (iK ea l0)) 0 0 Y)) (fun j=>([some (.pointer (some ⟨mb,0,none⟩)),some (.pointer (some ⟨mb,0,none⟩)),some (.pointer (some ⟨mb,0,none⟩)),some (.pointer (some ⟨mb,0,none⟩)),some (.slice vd (iK ea l0).length vc),some (.pointer (some ⟨w.heap.size,2,none⟩)),some (.string s),some (.int .i64 n3),some (.string (gW n3)),none,some (.pointer (some ⟨mb,0,none⟩)),some (.pointer (some ⟨mb,0,none⟩)),none]:List (Option Value)).getD j none) (by kernel_rfl) (by kernel_rfl) (by kernel_rfl) (by kernel_rfl) ?iY ?rsE ?iW
   case iY=>exact ⟨Ch.of_below (Below.refl _ _).drew (Nat.le_of_lt HM.out.lt),fun _=>(Below.refl _ _).drew,fun h=>(by cases h),fun h=>(by cases h)⟩
   case rsE=>
    refine Reg.au.plain rfl (fun L u T Y hL hz hS hk K hK=>?_) ?_
    ·have g0:=hk.old 0 rfl
     have hK:=hK _ Y hS (fun _ hx=>Option.some.inj hx)
     clear hk hz hL
     go_simp
     exact hK
    refine Reg.au.plain rfl (fun L u T Y hL hz hS hk K hK=>?_) ?_
    ·have g0:=hk.old 0 rfl
     have hK:=hK _ Y hS (fun _ hx=>Option.some.inj hx)
     clear hk hz hL
     go_simp
     exact hK
    refine Reg.au.plain rfl (fun L u T Y hL hz hS hk K hK=>?_) ?_
    ·have g55:=hk.val 1 55 rfl
     have hP:=hS.2.1 (hz 12 (by kernel_rfl))
     have mJ:=HM.out.next hP
     obtain ⟨c0,c1,c2,c3⟩:=mJ.cells
     have hml:=mJ.lt
     have hK:=hK _ Y hS (fun _ hx=>Option.some.inj hx)
     clear hk hz hL hS mJ hP
     go_simp
     exact hK
    refine Reg.au.plain rfl (fun L u T Y hL hz hS hk K hK=>?_) ?_
    ·have g56:=hk.val 2 56 rfl
     have hP:=hS.2.1 (hz 12 (by kernel_rfl))
     have mJ:=HM.out.next hP
     obtain ⟨c0,c1,c2,c3⟩:=mJ.cells
     have hml:=mJ.lt
     have hK:=hK _ Y hS (fun _ hx=>Option.some.inj hx)
     clear hk hz hL hS mJ hP
     go_simp
     exact hK
    refine Reg.au.plain rfl (fun L u T Y hL hz hS hk K hK=>?_) ?_
    ·have g57:=hk.val 3 57 rfl
     have hP:=hS.2.1 (hz 12 (by kernel_rfl))
     have mJ:=HM.out.next hP
     obtain ⟨c0,c1,c2,c3⟩:=mJ.cells
     have hml:=mJ.lt
     have hK:=hK _ Y hS (fun _ hx=>Option.some.inj hx)
     clear hk hz hL hS mJ hP
     go_simp
     exact hK
    refine Reg.au.plain rfl (fun L u T Y hL hz hS hk K hK=>?_) ?_
    ·have g3:=hk.old 3 rfl
     have hK:=hK _ Y hS (fun _ hx=>Option.some.inj hx)
     clear hk hz hL
     go_simp
     exact hK
    refine Reg.au.plain rfl (fun L u T Y hL hz hS hk K hK=>?_) ?_
    ·have g59:=hk.val 5 59 rfl
     obtain ⟨⟨z0,z1,z2,z3,z4,z5⟩,_⟩:=aA (iC Rf.out.1 hS.1 Rf.out.2)
     have hK:=hK _ Y hS (fun _ hx=>Option.some.inj hx)
     clear hk hz hL hS
     go_simp
     exact hK
    refine Reg.au.plain rfl (fun L u T Y hL hz hS hk K hK=>?_) ?_
    ·have g6:=hk.old 6 rfl
     have hK:=hK _ Y hS (fun _ hx=>Option.some.inj hx)
     clear hk hz hL
     go_simp
     exact hK
    refine Reg.au.plain rfl (fun L u T Y hL hz hS hk K hK=>?_) ?_
    ·have g61:=hk.val 7 61 rfl
     have h12:L 12=false:=hz 12 (by kernel_rfl)
     have h9:L 9=false:=hz 9 (by kernel_rfl)
     have hP:=hS.2.1 h12
     clear hk hz
     go_simp
     refine (I7 n3 Y HY.out).mono ?_
     rintro x w' ⟨rfl,hb⟩
     exact hK _ w' ⟨hS.1.trans (Ch.of_below hb (Nat.le_of_lt (HM.out.next hP).lt)),fun _=>hP.trans (hb.mono hP.size),fun h=>(by rw [Reg.upd_ne _ _ (by decide),h9] at h;cases h),fun h=>(by rw [Reg.upd_ne _ _ (by decide),h12] at h;cases h)⟩ (fun _ hx=>Option.some.inj hx)
    refine Reg.au.plain rfl (fun L u T Y hL hz hS hk K hK=>?_) ?_
    ·have g58:=hk.val 4 58 rfl
     have g60:=hk.val 6 60 rfl
     have g62:=hk.val 8 62 rfl
     have h12:L 12=false:=hz 12 (by kernel_rfl)
     have hP:=hS.2.1 h12
     have mJ:=HM.out.next hP
     clear hk hz
     go_simp
     refine (Ba _ (iK ea l0) s (gW n3) Y mJ.vs HL.out).mono ?_
     rintro x w' ⟨v,rfl,ho,hb⟩
     obtain ⟨hap,hsh⟩:=Uz ho mJ.lt
     exact hK v w' ⟨hS.1.trans (Ch.of_below hb (Nat.le_of_lt mJ.lt)),fun _=>hP.trans (hb.mono hP.size),fun _ _=>(by rw [Reg.upd_same];exact ⟨hsh,VS.xJ ho,hap⟩),fun h=>(by rw [Reg.upd_ne _ _ (by decide),h12] at h;cases h)⟩ (fun _ hx=>(by cases hx))
    refine Reg.au.plain rfl (fun L u T Y hL hz hS hk K hK=>?_) ?_
    ·have g54:=hk.val 0 54 rfl
     have hP:=hS.2.1 (hz 12 (by kernel_rfl))
     have mJ:=HM.out.next hP
     obtain ⟨c0,c1,c2,c3⟩:=mJ.cells
     have hml:=mJ.lt
     have hK:=hK _ Y hS (fun _ hx=>Option.some.inj hx)
     clear hk hz hL hS mJ hP
     go_simp
     exact hK
    refine Reg.au.plain rfl (fun L u T Y hL hz hS hk K hK=>?_) ?_
    ·have g64:=hk.val 10 64 rfl
     have hP:=hS.2.1 (hz 12 (by kernel_rfl))
     have mJ:=HM.out.next hP
     obtain ⟨c0,c1,c2,c3⟩:=mJ.cells
     have hml:=mJ.lt
     have hK:=hK _ Y hS (fun _ hx=>Option.some.inj hx)
     clear hk hz hL hS mJ hP
     go_simp
     exact hK
    refine Reg.au.plain rfl (fun L u T Y hL hz hS hk K hK=>?_) ?_
    ·obtain ⟨g63,l63⟩:=hk.any 9 63
     have ZV:=hk.val 11 65 rfl
     obtain ⟨⟨va,vc',hu⟩,hv,hap⟩:=hS.2.2.1 l63 hL
     have hP:=hS.2.1 hL
     have mJ:=HM.out.next hP
     obtain ⟨c0,c1,c2,c3⟩:=mJ.cells
     have f0:=mJ.fr 0
     have hml:=mJ.lt
     have hK:=hK undef (Y.setCell ⟨mb,0,none⟩ (u 9)) ⟨hS.1.trans (Ch.set _ _ _),fun h=>(by rw [Reg.upd_same] at h;cases h),fun _ h=>(by rw [Reg.upd_same] at h;cases h),fun _=>⟨_,mJ.put hv hap⟩⟩ (fun _ hx=>(by cases hx))
     rw [hu] at g63 hK
     clear hk hz hL hS mJ hP hv hap hu
     go_simp
     exact hK
    exact Reg.au.nil
   case iW=>
    intro L u w9 hL hS hI
    have e0:=hI 0 (by decide) _ rfl
    have e1:=hI 1 (by decide) _ rfl
    have e2:=hI 2 (by decide) _ rfl
    have e3:=hI 3 (by decide) _ rfl
    have e4:=hI 4 (by decide) _ rfl
    have e5:=hI 5 (by decide) _ rfl
    have e6:=hI 6 (by decide) _ rfl
    have e7:=hI 7 (by decide) _ rfl
    have e8:=hI 8 (by decide) _ rfl
    have e10:=hI 10 (by decide) _ rfl
    have e11:=hI 11 (by decide) _ rfl
    clear hI
    simp only [Reg.aK,Act.put,List.setIfInBounds_toArray,List.set_cons_succ,List.set_cons_zero,Nat.zero_add,Nat.reduceAdd,e0,e1,e2,e3,e4,e5,e6,e7,e8,e10,e11]
    clear e0 e1 e2 e3 e4 e5 e6 e7 e8 e10 e11
    obtain ⟨Qn,hm'⟩:=hS.2.2.2 (hL 12 (by decide))
    have HM':=Lib.hid hm'
    have NI:=Lib.hid (HCX.out.trans hS.1)
    clear hm' hS hL
    go_wp2_with fail
    go_ret
    exact ⟨⟨_,rfl,Gj.out _ _ _ HQ.out _ HM'.out⟩,NI.out⟩
theorem vX (mb:Nat) (l0:Vl) (hr:l0.lS) (hz: ∀x∈l0,x.2.size≤9223372036854775807) (hl:l0.length≤5000): ∀t:Tr,t.Ops→t.Fits→zi mb l0 t
 | .num v p,_,_=>aaO mb l0 v p
 | .name s p,_,_=>XR mb l0 hr hz hl s p
 | .un op p a,ho,hf=>by
  have ha:=vX mb l0 hr hz hl a ho.2 hf
  have h1:=ho.1
  simp only [WU,List.mem_cons,List.not_mem_nil,or_false] at h1
  have hfa:a.Fits:=hf
  rcases h1 with rfl | rfl | rfl | rfl
  ·exact Vb mb l0 p a hfa ha
  ·exact Vd mb l0 p a hfa ha
  ·exact QN mb l0 p a hfa ha
  ·exact QO mb l0 p a hfa ha
 | .bin op p a b,ho,hf=>by
  have ha:=vX mb l0 hr hz hl a ho.2.1 hf.1
  have hb:=vX mb l0 hr hz hl b ho.2.2 hf.2
  by_cases c1:op=fV
  ·subst c1
   exact aaR mb l0 p a b ho.2.1 hf.1 ha hb
  ·by_cases c2:op=jR
   ·subst c2
    exact ev_or mb l0 p a b ho.2.1 hf.1 ha hb
   ·exact aaQ mb l0 p a b ho.2.1 hf.1 ha hb (FB ho.1) c1 c2
 | .cond op p a b c,ho,hf=>by
  have ha:=vX mb l0 hr hz hl a ho.2.1 hf.1
  have hb:=vX mb l0 hr hz hl b ho.2.2.1 hf.2.1
  have hc:=vX mb l0 hr hz hl c ho.2.2.2 hf.2.2
  have h1:=ho.1
  subst h1
  exact XT mb l0 p a b c ho.2.1 hf.1 ha hb hc
 | .eF op s p q a,ho,hf=>by
  have ha:=vX mb l0 hr hz hl a ho.2.2.2 hf.2
  by_cases c:op=⟨#[61]⟩
  ·subst c
   exact aaN mb l0 hl s p q a ho.2.2.2 hf.2 ha
  ·exact Ve mb l0 hl s p q a ho.2.2.2 hf.2 ha hr hz ho.2.1 ho.1 c
theorem uw {fn:Func} {p q r:Tmp} (h:fn.results= #[.tmp p,.tmp q,.cell r 32]) (tmps:Array Value) (w:World) (f:Nat) (ds:Array Value) (a b:Value)
  (hp:tmps.getD p undef=a) (hq:tmps.getD q undef=b) (hr:tmps.getD r undef= .pointer (some ⟨f,0,none⟩)) (hf:w.heap[f]? =some (.cells ds 32 (0,0))) (ht:ds.size=3):
  (results fn tmps).run Tryz.prog w= .ok (.tuple #[a,b,.agg ds]) w:=by
 have hp':tmps[p]?.getD undef=a:=by simpa using hp
 have hq':tmps[q]?.getD undef=b:=by simpa using hq
 have hr':tmps[r]?.getD undef= .pointer (some ⟨f,0,none⟩):=by simpa using hr
 have h2:=run_loadVar_row (P:=Tryz.prog) w f 32 32 ds (0,0) _ hf Tryz.underlying32 rfl (by rw [ht];exact Ja)
 simp [results,h,hp',hq',hr',asAddr,h2]
theorem Xn {w w':World} {v:Value} {l:Vl} {f:Nat} {a b c:Int} {ty:TypeId} (h:VS w v l) (hf:w.heap[f]? =some (.cells #[.int .i64 a,.int .i64 b,.int .i64 c] ty (0,0))) (hk: ∀k,k<w.heap.size→k≠f→w'.heap[k]? =w.heap[k]?) (hs:w.heap.size≤w'.heap.size):VS w' v l:=by
 by_cases h0:l=[]
 ·subst h0
  obtain ⟨x,y,e⟩:=rX h
  exact Or.inl ⟨rfl,x,y,e⟩
 ·refine h.but (fun d hd o cap e=>hk d hd ?_) hs
  intro hdf
  rcases h with ⟨h1,_⟩ | ⟨d',o',cap',e',_,hc⟩
  ·exact h0 h1
  ·rw [e'] at e
   simp only [Value.slice.injEq,Option.some.injEq,Addr.mk.injEq] at e
   have hd':d'=f:=e.1.1.trans hdf
   obtain ⟨p,hp⟩: ∃p,l[0]? =some p:=⟨l[0]'(List.length_pos_iff.2 h0),List.getElem?_eq_getElem _⟩
   have h2:=(hc 0 p hp).1
   rw [hd',Lib.cell_of_heap hf] at h2
   have h3:=(Array.getElem?_eq_some_iff.1 h2).1
   have h4:o'+0*2<3:=h3
   rcases (by omega:o'=0∨o'=1∨o'=2) with rfl | rfl | rfl<;>simp at h2
def RnO (l0:Vl) (vv:Value) (rv:Rv) (x:Ending) (w':World):Prop:=
 match rv with
 | .ok n e=> ∃v',x= .returned (.tuple #[.int .i64 n,v',.agg #[.int .i64 0,.int .i64 0,.int .i64 0]])∧VS w' v' (iK e l0)
 | .bad c p=>0<c∧x= .returned (.tuple #[.int .i64 0,vv,.agg #[.int .i64 c,.int .i64 p,.int .i64 1]])
 | .no=>False
theorem U4 (t:Tr) (l0:Vl) (hr:l0.lS) (hz: ∀x∈l0,x.2.size≤9223372036854775807) (hl:l0.length≤5000) (ho:t.Ops) (hf:t.Fits) (hn:need t≤10000) (vv kv:Value) (w:World) (lo:Nat) (hk:t.In w lo kv) (hv:VS w vv l0):
  Calls Tryz.prog 31 #[.agg #[.string t.op,.int .i64 t.val,.string t.nm,.int .i64 t.pos,.int .i64 t.aG,kv],vv] w fun x w'=>RnO l0 vv (ev (dY l0) t []) x w'∧Below w.heap.size w w':=by
 obtain ⟨mb,hmb⟩: ∃mb,w.heap.size+2=mb:=⟨_,rfl⟩
 have hkp:=Tr.In.toP (P:=fun i=>i≠mb) (fun k _ h=>by omega) t kv hk
 obtain ⟨oa,na,rfl⟩:=hkp.shape
 obtain ⟨vd,vc,rfl⟩:=rX hv
 obtain ⟨W,hW⟩: ∃W,W=(w.alloc (.cells #[.string t.op,.int .i64 t.val,.string t.nm,.int .i64 t.pos,.int .i64 t.aG,.slice oa na na] 30)).alloc zF:=⟨_,rfl⟩
 obtain ⟨V,hV⟩: ∃V,V=W.alloc (.cells #[.slice vd l0.length vc,.int .i64 0,.int .i64 0,.int .i64 0] 125):=⟨_,rfl⟩
 have hWs:W.heap.size=mb:=by rw [hW, ←hmb];simp
 have hVs:V.heap.size=mb+1:=by rw [hV, ←hWs];simp
 have HB0:Hid (Below w.heap.size w W):=Lib.hid (by rw [hW];exact ((Below.refl _ _).alloc (Nat.le_refl _) _).alloc (by simp) _)
 have RJ:Hid (Below w.heap.size w V):=Lib.hid (by rw [hV];exact HB0.out.alloc HB0.out.size _)
 have HG:Hid (V.heap[w.heap.size]? =some (.cells #[.string t.op,.int .i64 t.val,.string t.nm,.int .i64 t.pos,.int .i64 t.aG,.slice oa na na] 30 (0,0))):=Lib.hid (by rw [hV,hW];exact aN (aN (heap_alloc_last w _) _) _)
 have HF:Hid (V.heap[w.heap.size+1]? =some zF):=Lib.hid (by rw [hV,hW];refine aN ?_ _;have:=heap_alloc_last (w.alloc (.cells #[.string t.op,.int .i64 t.val,.string t.nm,.int .i64 t.pos,.int .i64 t.aG,.slice oa na na] 30)) zF;simpa using this)
 have HM:Hid (vG mb (.slice vd l0.length vc) (iK [] l0) 0 0 V):=Lib.hid ⟨by rw [hV, ←hWs];exact heap_alloc_last W _,hv.below RJ.out,fun b o n cap e=>by
  rcases hv with ⟨h0,_⟩ | ⟨b',o',c',e',hlt,_⟩
  ·exact Or.inl h0
  ·rw [e'] at e
   simp only [Value.slice.injEq,Option.some.injEq,Addr.mk.injEq] at e
   exact Or.inr (by have:=e.1.1;omega)⟩
 have xK:Hid (Calls Tryz.prog 67 #[.pointer (some ⟨mb,0,none⟩),.agg #[.string t.op,.int .i64 t.val,.string t.nm,.int .i64 t.pos,.int .i64 t.aG,.slice oa na na]] V fun x w'=>Dt mb l0 (ev (dY l0) t []) x w'∧Ch mb V w'):=Lib.hid (vX mb l0 hr hz hl t ho hf [] _ _ V (by simpa using hn) kC.nil (hkp.kept (fun k _ hs=>RJ.out.block k hs) t _) HM.out)
 obtain ⟨rv,rC⟩: ∃rv,ev (dY l0) t []=rv:=⟨_,rfl⟩
 rw [rC] at xK⊢
 clear rC
 have dR:=Lib.hid hW
 have HVE:=Lib.hid hV
 obtain ⟨⟨z0,z1,z2,z3,z4,z5⟩,_⟩:=aA HG.out
 clear hW hV hk hkp hv hr hz hl ho hf hn
 unfold zF at dR
 go_enter Tryz.func31,Tryz.ntmps31
 go_upto_region 1 with fail
 rw [←dR.out]
 go_upto_region 2 with fail
 rw [←HVE.out]
 go_wp2_with fail
 refine xK.out.mono ?_
 rintro x w6 ⟨⟨n,rfl,hv⟩,hc⟩
 have Qr:Hid (w6.heap[w.heap.size+1]? =some (.cells #[.int .i64 0,.int .i64 0,.int .i64 0] 32 (0,0))):=Lib.hid ((hc.2 _ (by omega) (by omega)).trans HF.out)
 have Xb:Hid (Below w.heap.size w w6):=Lib.hid (RJ.out.trans (hc.1.mono (by omega)))
 have RX:Hid (mb<w6.heap.size):=Lib.hid (by have:=hc.1.size;omega)
 clear z0 z1 z2 z3 z4 z5 hc xK HM HG HF RJ HB0
 cases rv with
 | no=>exact hv.elim
 | bad c q=>
  obtain ⟨hc0,ZT,l2,hm2⟩:=hv
  obtain ⟨c1,rfl⟩: ∃c1,c=c1+1:=⟨c - 1,by omega⟩
  obtain ⟨d0,d1,d2,d3⟩:=hm2.cells
  have hcn:((((c1+1:Nat):Int)) !=0)=true:=by simp;omega
  have hlg:WV (c1+1)=1:=if_neg (by omega)
  rw [hlg] at d3
  have Fa:Hid (∀X:World,X.heap[mb]? =w6.heap[mb]?→X.cell? ⟨mb,1,none⟩=some (.int .i64 ((c1+1:Nat):Int))∧X.cell? ⟨mb,2,none⟩=some (.int .i64 (q:Nat))∧X.cell? ⟨mb,3,none⟩=some (.int .i64 1)):=Lib.hid fun X hX=>by
   rw [World.cell?_of_block (w:=w6) (a:=⟨mb,1,none⟩) hX,World.cell?_of_block (w:=w6) (a:=⟨mb,2,none⟩) hX,World.cell?_of_block (w:=w6) (a:=⟨mb,3,none⟩) hX]
   exact ⟨d1,d2,d3⟩
  have Du:=RX.out
  clear hm2
  go_wp2_with fail
  have fD:=Lib.hid (Fa.out w6 rfl)
  have dZ:=Lib.hid (Fa.out w6.drew (by rw [dG]))
  have yE:=Lib.hid (fun u0 u1 u2=>Fa.out (qm w6 (w.heap.size+1) u0 u1 u2).drew (by rw [dG];exact kW _ _ _ _ _ _ (by omega)))
  unfold qm at yE
  obtain ⟨⟨u0,u1,u2⟩,w0,w1,w2⟩:=kY Qr.out
  clear d0 d1 d2 d3
  go_region_held3 (fun X=>X.cell? ⟨mb,1,none⟩=some (.int .i64 ((c1+1:Nat):Int))∧X.cell? ⟨mb,2,none⟩=some (.int .i64 (q:Nat))∧X.cell? ⟨mb,3,none⟩=some (.int .i64 1))
   (first | with_reducible exact fD.out | with_reducible exact dZ.out | with_reducible exact yE.out _ _ _)
   (fail)
  obtain ⟨U,hU⟩: ∃U:World,U=(qm w6 (w.heap.size+1) (.int .i64 ((c1:Int)+1)) (.int .i64 (q:Nat)) (.int .i64 1)).drew:=⟨_,rfl⟩
  have JA:=hU
  unfold qm at JA
  rw [←JA]
  have YJ:Hid (U.heap[w.heap.size+1]? =some (.cells #[.int .i64 ((c1:Int)+1),.int .i64 (q:Nat),.int .i64 1] 32 (0,0))):=Lib.hid (by rw [hU,dG];exact yu Qr.out _ _ _)
  have YK:Hid (Below w.heap.size w U):=Lib.hid (by rw [hU];exact (pU Xb.out (by omega) _ _ _).drew)
  clear hU JA u0 u1 u2 w0 w1 w2 yE
  go_wp2_with fail
  exact bodyPost_ret (uw rfl _ _ (w.heap.size+1) _ _ _ rfl rfl rfl YJ.out rfl) rfl (And.intro (show RnO l0 (.slice vd l0.length vc) (.bad (c1+1) q) _ U from ⟨by omega,rfl⟩) YK.out)
 | ok v e=>
  obtain ⟨rfl,ZT,hm2⟩:=hv
  obtain ⟨d0,d1,d2,d3⟩:=hm2.cells
  have NC:=Lib.hid hm2.vs
  obtain ⟨va,vb,rfl⟩:=rX hm2.vs
  have HFB:=Lib.hid Ef
  have hft:=Ef
  have Fa:Hid (∀X:World,X.heap[mb]? =w6.heap[mb]?→X.cell? ⟨mb,0,none⟩=some (.slice va (iK e l0).length vb)):=Lib.hid fun X hX=>by
   rw [World.cell?_of_block (w:=w6) (a:=⟨mb,0,none⟩) hX]
   exact d0
  have Du:=RX.out
  clear hm2
  go_wp2_with fail
  have fD:=Lib.hid (Fa.out w6 rfl)
  have dZ:=Lib.hid (Fa.out w6.drew (by rw [dG]))
  have yE:=Lib.hid (fun u0 u1 u2=>Fa.out (qm w6 (w.heap.size+1) u0 u1 u2).drew (by rw [dG];exact kW _ _ _ _ _ _ (by omega)))
  unfold qm at yE
  obtain ⟨⟨u0,u1,u2⟩,w0,w1,w2⟩:=kY Qr.out
  clear d0 d1 d2 d3
  go_region_held3 (fun X=>X.cell? ⟨mb,0,none⟩=some (.slice va (iK e l0).length vb))
   (first | with_reducible exact fD.out | with_reducible exact dZ.out | with_reducible exact yE.out _ _ _)
   (fail)
  obtain ⟨U,hU⟩: ∃U:World,U=(qm w6 (w.heap.size+1) (.int .i64 0) (.int .i64 0) (.int .i64 0)).drew:=⟨_,rfl⟩
  have JA:=hU
  unfold qm at JA
  rw [←JA]
  have YJ:Hid (U.heap[w.heap.size+1]? =some (.cells #[.int .i64 0,.int .i64 0,.int .i64 0] 32 (0,0))):=Lib.hid (by rw [hU,dG];exact yu Qr.out _ _ _)
  have YK:Hid (Below w.heap.size w U):=Lib.hid (by rw [hU];exact (pU Xb.out (by omega) _ _ _).drew)
  have HVU:Hid (VS U (.slice va (iK e l0).length vb) (iK e l0)):=Lib.hid (Xn NC.out Qr.out (fun k _ hk=>by rw [hU,dG];exact kW _ _ _ _ _ _ hk) (by rw [hU,dG];simp [qm,World.setCell]))
  clear hU JA u0 u1 u2 w0 w1 w2 yE
  go_wp2_with fail
  exact bodyPost_ret (uw rfl _ _ (w.heap.size+1) _ _ _ rfl rfl rfl YJ.out rfl) rfl (And.intro (show RnO l0 (.slice vd l0.length vc) (.ok n e) _ U from ⟨_,rfl,HVU.out⟩) YK.out)
theorem yJ {op:ByteArray} {q:Nat} {l r:Int} {e:Asc} {c p:Nat} (h:gq op q l r e= .bad c p):c=12:=by
 unfold gq at h
 split at h
 ·simp only [Rv.bad.injEq] at h;exact h.1.symm
 ·split at h<;>cases h
theorem BX {NV:ByteArray→Int × Nat} (qU: ∀n,(NV n).2≤21) {s:ByteArray} {p:Nat} {e:Asc} {c q:Nat} (h:jZ NV s p e= .bad c q):1≤c∧c≤21:=by
 unfold jZ at h
 split at h
 ·cases h
 ·split at h
  ·cases h
  ·rename_i hh
   simp only [Rv.bad.injEq] at h
   rw [←h.1]
   exact ⟨by omega,qU s⟩
theorem jf (NV:ByteArray→Int × Nat) (qU: ∀n,(NV n).2≤21): ∀(t:Tr) (e:Asc) (c p:Nat),ev NV t e= .bad c p→1≤c∧c≤21
 | .num n q,e,c,p,h=>by simp [ev] at h
 | .name s q,e,c,p,h=>BX qU (show jZ NV s q e=_ from h)
 | .un op q a,e,c,p,h=>by
  rcases Rv.bP (show (ev NV a e).then (fun v e1=>ig op v e1)=_ from h) with h1 | ⟨v,e1,_,h1⟩
  ·exact jf NV qU a e c p h1
  ·exact (lV h1).elim
 | .bin op q a b,e,c,p,h=>by
  rcases Rv.bP (show (ev NV a e).then _=_ from h) with h1 | ⟨v,e1,_,h1⟩
  ·exact jf NV qU a e c p h1
  ·by_cases c1:op=fV
   ·rw [if_pos c1] at h1
    by_cases c0:v=0
    ·rw [if_pos c0] at h1;cases h1
    ·rw [if_neg c0] at h1
     rcases Rv.bP h1 with h2 | ⟨u,e2,_,h2⟩
     ·exact jf NV qU b e1 c p h2
     ·exact (lV h2).elim
   ·rw [if_neg c1] at h1
    by_cases c2:op=jR
    ·rw [if_pos c2] at h1
     by_cases c0:v=0
     ·rw [if_pos c0] at h1
      rcases Rv.bP h1 with h2 | ⟨u,e2,_,h2⟩
      ·exact jf NV qU b e1 c p h2
      ·exact (lV h2).elim
     ·rw [if_neg c0] at h1;cases h1
    ·rw [if_neg c2] at h1
     rcases Rv.bP h1 with h2 | ⟨u,e2,_,h2⟩
     ·exact jf NV qU b e1 c p h2
     ·have:=yJ h2;omega
 | .cond op q a b d,e,c,p,h=>by
  rcases Rv.bP (show (ev NV a e).then _=_ from h) with h1 | ⟨v,e1,_,h1⟩
  ·exact jf NV qU a e c p h1
  ·by_cases c0:v=0
   ·rw [if_pos c0] at h1;exact jf NV qU d e1 c p h1
   ·rw [if_neg c0] at h1;exact jf NV qU b e1 c p h1
 | .eF op s q q2 a,e,c,p,h=>by
  simp only [ev] at h
  by_cases h1:bF op=ak
  ·rw [if_pos h1] at h
   rcases Rv.bP h with h2 | ⟨v,e1,_,h2⟩
   ·exact jf NV qU a e c p h2
   ·cases h2
  ·rw [if_neg h1] at h
   rcases Rv.bP h with h2 | ⟨v,e1,_,h2⟩
   ·exact BX qU h2
   ·rcases Rv.bP h2 with h3 | ⟨u,e2,_,h3⟩
    ·exact jf NV qU a e1 c p h3
    ·rcases Rv.bP h3 with h4 | ⟨x,e3,_,h4⟩
     ·have:=yJ h4;omega
     ·cases h4
end Go.Proofs.YtacfglopionkfaaGreatDoor
namespace Go.Proofs.YtacfglopionkfaaGreatDoor
set_option maxHeartbeats 8000000
set_option maxRecDepth 100000
open Go.RowKit Go.WideMaps Go.Maps
theorem VS.shape {w:World} {v:Value} {l:Vl} (h:VS w v l): ∃a c,v= .slice a l.length c:=by
 rcases h with ⟨rfl,x,y,h⟩ | ⟨x,y,z,h,_⟩
 ·exact ⟨x,y,h⟩
 ·exact ⟨_,z,h⟩
theorem xU (va vb:Value) (a:Vl) (w:World) (ha:VS w va a) (hb:VS w vb a) (hl:a.length≤1000000):Calls Tryz.prog 14 #[va,vb] w fun e w'=>e= .returned (.bool true)∧Below w.heap.size w w':=by
 refine (G9 va vb a a w ha hb hl hl).mono ?_
 rintro e w' ⟨rfl,hb⟩
 exact ⟨by rw [decide_eq_true (rfl:a=a)],hb⟩
end Go.Proofs.YtacfglopionkfaaGreatDoor
