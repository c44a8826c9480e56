import Derived.Test.YtacfglopionkfaaGreatDoorFaFn
namespace Go.Proofs.YtacfglopionkfaaGreatDoor
set_option maxHeartbeats 8000000
set_option maxRecDepth 100000
open Go.RowKit Go.Extern.Stop Go.Stop Go.Extern
structure Rt (w:World) (s:Nat→Addr) (a:Addr) (c:Nat):Prop where
 blk: ∃cs t,w.heap[a.block]? =some (.cells cs t (0,0))
 code: ∀k,1≤k→k≤21→(a=s k↔k=c)
 pos:1≤c
 le:c≤22
theorem Rt.below {w w':World} {s:Nat→Addr} {a:Addr} {c:Nat} (h:Rt w s a c) (hb:Below w.heap.size w w'):Rt w' s a c where
 blk:=by obtain ⟨cs,t,e⟩:=h.blk;exact ⟨cs,t,bY hb _ _ e⟩
 code:=h.code
 pos:=h.pos
 le:=h.le
theorem o7.rt {w:World} {s:Nat→Addr} (h:o7 w s) (k:Nat) (h1:1≤k) (h2:k≤21):Rt w s (s k) k where
 blk:=h.blk k h1 h2
 code j j1 j2:=⟨fun e=>(h.apart k j h1 h2 j1 j2 e).symm,fun e=>by rw [e]⟩
 pos:=h1
 le:=by omega
theorem UJ (l:List (Bool × Int)) (v:Value) (a:Addr) (s:Nat→Addr) (c:Nat) (w:World) (hs:o7 w s) (hr:Rt w s a c) (hc:kJ w l v (bot a)) (h2:c≤21):
  Calls Tryz.prog 81 #[v,.int .i64 c] w fun e w'=>e= .returned (.bool true)∧Below w.heap.size w w':=by
 obtain ⟨i,hi,hcmp⟩:=Option.map_eq_some_iff.1 Tryz.isComp
 obtain ⟨j,hj,hjs⟩:=Option.map_eq_some_iff.1 Tryz.isSize
 obtain rfl:=(hr.code c hr.pos h2).2 rfl
 exact FT l v _ s w hs hc c hr.pos h2 true fun W _=>run_eql_iface_ptr_same (P:=Tryz.prog) W _ Tryz.underlying25 Tryz.underlying276 hi hcmp hj
theorem Zr (l:List (Bool × Int)) (v:Value) (a:Addr) (s:Nat→Addr) (c:Nat) (w:World) (hs:o7 w s) (hr:Rt w s a c) (hc:kJ w l v (bot a)) (k:Nat) (h1:1≤k) (h2:k≤21) (hk:k≠c):
  Calls Tryz.prog 81 #[v,.int .i64 k] w fun e w'=>e= .returned (.bool false)∧Below w.heap.size w w':=by
 obtain ⟨i,hi,hcmp⟩:=Option.map_eq_some_iff.1 Tryz.isComp
 obtain ⟨j,hj,hjs⟩:=Option.map_eq_some_iff.1 Tryz.isSize
 refine FT l v a s w hs hc k h1 h2 false fun W hW=>?_
 obtain ⟨ca,ta,ha⟩:=hr.blk
 obtain ⟨cb,tb,hb⟩:=hs.blk k h1 h2
 exact run_eql_iface_ptr_other (P:=Tryz.prog) W Tryz.underlying25 Tryz.underlying276 hi hcmp hj (by rw [hjs];decide) (fun e=>hk ((hr.code k h1 h2).1 e)) (bY hW _ _ ha) (bY hW _ _ hb)
set_option maxHeartbeats 2000000 in
theorem nD (l:List (Bool × Int)) (v:Value) (a:Addr) (s:Nat→Addr) (c:Nat) (w:World) (hs:o7 w s) (hr:Rt w s a c) (hc:kJ w l v (bot a)):
  Calls Tryz.prog 44 #[v] w fun e w'=>e= .returned (.int .i64 c)∧Below w.heap.size w w':=by
 have hpos:=hr.pos
 have hle:=hr.le
 go_enter Tryz.func44,Tryz.ntmps44
 go_wp2
 go_loopw [3] (fun i wr=> ∃k:Nat,i= .int .i64 k∧1≤k∧k≤c∧Below w.heap.size w wr) (fun i _=>22 - (intOf i).toNat)
 case atStart=>exact ⟨1,rfl,Nat.le_refl _,hpos,Below.refl _ _⟩
 case round=>
  obtain ⟨k,rfl,hk1,hk2,hb⟩:=hrel
  have HS:=Lib.hid (hs.below hb)
  have HR:=Lib.hid (hr.below hb)
  have HC:=Lib.hid (hc.below hb)
  clear hs hr hc
  by_cases hkc:k=c
  ·subst hkc
   by_cases h22:k=22
   ·subst h22
    go_wp2
    go_ret
    exact ⟨rfl,hb⟩
   ·have Tj:k≤21:=by omega
    go_wp2_with (go_at_call 81;refine (UJ l v a s k _ HS.out HR.out HC.out Tj).mono ?_;rintro e w' ⟨rfl,hb'⟩)
    go_ret
    exact ⟨rfl,Below.step hb hb'⟩
  ·have Tj:k≤21:=by omega
   go_wp2_with (go_at_call 81;refine (Zr l v a s c _ HS.out HR.out HC.out k hk1 Tj hkc).mono ?_;rintro e w' ⟨rfl,hb'⟩)
   go_roundw
   case rel=>exact ⟨k+1,by go_num,by omega,by omega,Below.step hb hb'⟩
   case measure=>simp [intOf];omega
structure Fh (w:World) (k:Nat) (a b c:Value):Prop where
 c0:w.cell? ⟨k,0,none⟩=some a
 c1:w.cell? ⟨k,1,none⟩=some b
 c2:w.cell? ⟨k,2,none⟩=some c
 f0:w.frozen? ⟨k,0,none⟩=false
 f1:w.frozen? ⟨k,1,none⟩=false
 f2:w.frozen? ⟨k,2,none⟩=false
theorem Fh.of {w:World} {k:Nat} {a b c:Value} {t:TypeId} (h:w.heap[k]? =some (.cells #[a,b,c] t (0,0))):Fh w k a b c:=by
 constructor<;>simp [World.cell?,World.frozen?,h]
theorem fG (w:World) (o:Obj) {w1:World} (hb:Below (w.alloc o).heap.size (w.alloc o) w1):w1.heap[w.heap.size]? =some o:=
 bY hb _ _ (by show (w.heap.push o)[w.heap.size]? =some o;simp)
theorem bQ {w w1:World} {k:Nat} {o:Obj} (h:w.heap[k]? =some o) (hb:Below w.heap.size w w1):w1.heap[k]? =some o:=bY hb _ _ h
set_option maxHeartbeats 4000000 in
theorem KG (w:World):
  Calls Tryz.prog 11 #[.nilIface] w fun e w'=>e= .returned (.agg #[.int .i64 0,.int .i64 0,.int .i64 0])∧Below w.heap.size w w':=by
 go_enter Tryz.func11,Tryz.ntmps11
 go_wp2
 exact bodyPost_ret (v:= .agg #[.int .i64 0,.int .i64 0,.int .i64 0]) (by simp [results,Tryz.results11,go_sem]) rfl ⟨rfl,(Below.refl _ _).alloc (Nat.le_refl _) _⟩
theorem set1 {w:World} {k:Nat} {a b c:Value} {t:TypeId} (h:w.heap[k]? =some (.cells #[a,b,c] t (0,0))) (v:Value):(w.setCell ⟨k,1,none⟩ v).heap[k]? =some (.cells #[a,v,c] t (0,0)):=by
 simp [World.setCell,Array.getElem?_modify,h]
theorem FH {w:World} {k:Nat} {o:Obj} (h:w.heap[k]? =some o) (p:Addr) (hp:p.block≠k) (v:Value):(w.setCell p v).heap[k]? =some o:=by
 rw [Below.heap_setCell _ _ _ _ (Ne.symm hp)];exact h
theorem OG (l:List (Bool × Int)) (v:Value) (a:Addr) (s:Nat→Addr) (c:Nat) (w:World) (hs:o7 w s) (hr:Rt w s a c) (hc:kJ w l v (bot a)) (p:Int) (hp:aO false l=some p) (q:Int) (hq:aO true l=some q):
  Calls Tryz.prog 11 #[v] w fun e w'=>e= .returned (.agg #[.int .i64 c,.int .i64 p,.int .i64 q])∧Below w.heap.size w w':=by
 obtain ⟨vt,vv,rfl⟩:=hc.held ⟨_,_,rfl⟩
 have hb0:Below w.heap.size w (w.alloc (.cells #[.int .i64 0,.int .i64 0,.int .i64 0] 32)):=(Below.refl _ _).alloc (Nat.le_refl _) _
 have HL:=Lib.hid (nD l _ a s c _ (hs.below hb0) (hr.below hb0) (hc.below hb0))
 have HB0:=Lib.hid hb0
 have HS:=Lib.hid hs
 have HC:=Lib.hid hc
 have HP:=Lib.hid hp
 have HQ:=Lib.hid hq
 clear hs hr hc hb0 hp hq
 go_enter Tryz.func11,Tryz.ntmps11
 go_wp2_with fail
 refine HL.out.mono ?_
 rintro e w1 ⟨rfl,hb1⟩
 have N1:=Lib.hid (fG _ _ hb1)
 have hz1:w.heap.size<w1.heap.size:=by have:=hb1.size;simp at this;omega
 have HB1:=Lib.hid (Below.step HB0.out hb1)
 clear hb1
 go_wp2_with fail
 have hb1':Below w1.heap.size w1 (w1.alloc (.cells #[.int .i64 c,.int .i64 0,.int .i64 0] 32)):=(Below.refl _ _).alloc (Nat.le_refl _) _
 have HA1:=Lib.hid hb1'
 clear hb1'
 refine (BP l _ a s _ (HS.out.below (Below.step HB1.out HA1.out)) (HC.out.below (Below.step HB1.out HA1.out)) p HP.out).mono ?_
 rintro e w2 ⟨k,x,rfl,hk,hb2⟩
 have kk:=bQ hk hb2
 have kc:w2.cell? ⟨k,1,none⟩=some (.int .i64 p):=by simp [World.cell?,kk]
 have n2:=fG _ _ hb2
 have r2:=bQ N1.out (Below.step HA1.out hb2)
 obtain ⟨a0,a1,a2,g0,g1,g2⟩:=Fh.of n2
 have hz2:w1.heap.size<w2.heap.size:=by have:=hb2.size;simp at this;omega
 have HB2:=Lib.hid (Below.step HB1.out (Below.step HA1.out hb2))
 have N2:=Lib.hid n2
 have R2:=Lib.hid r2
 clear hb2 n2 r2 hk kk
 go_wp2_with fail
 have HB3:Hid (Below w.heap.size w (w2.setCell ⟨w1.heap.size,1,none⟩ (.int .i64 p))):=HB2.out.setCell (p:=⟨w1.heap.size,1,none⟩) (Nat.le_of_lt hz1) _
 have N3:=Lib.hid (set1 N2.out (.int .i64 p))
 have R3:=Lib.hid (FH R2.out ⟨w1.heap.size,1,none⟩ (Nat.ne_of_gt hz1) (.int .i64 p))
 refine (BO l _ a s _ (HS.out.below HB3.out) (HC.out.below HB3.out) q HQ.out).mono ?_
 rintro e w4 ⟨k',x',rfl,hk',hb4⟩
 have Yy:=bQ hk' hb4
 have kc':w4.cell? ⟨k',1,none⟩=some (.int .i64 q):=by simp [World.cell?,Yy]
 have n4:=bQ N3.out hb4
 have r4:=bQ R3.out hb4
 have Nz:w1.heap.size<w4.heap.size:=Nat.lt_of_lt_of_le (by simpa using hz2) hb4.size
 obtain ⟨b0,b1,b2,h0,h1,h2⟩:=Fh.of n4
 obtain ⟨d0,d1,d2,i0,i1,i2⟩:=Fh.of r4
 have HB4:=Lib.hid (Below.step HB3.out hb4)
 clear a0 a1 a2 g0 g1 g2 hb4 n4 r4 hk' Yy kc
 go_wp2
 refine bodyPost_ret (v:= .agg #[.int .i64 c,.int .i64 p,.int .i64 q]) (by simp [results,Tryz.results11,go_sem,d0,d1,d2]) rfl ⟨rfl,?_⟩
 repeat' first | exact HB4.out | refine Below.drew ?_ | refine Below.setCell ?_ ?_ _ | (simp;done) | exact Nat.le_of_lt hz1
theorem OE (l:List (Bool × Int)) (v:Value) (a:Addr) (s:Nat→Addr) (c:Nat) (w:World) (hs:o7 w s) (hr:Rt w s a c) (hc:kJ w l v (bot a)) (p:Int) (hp:aO false l=some p) (hq:aO true l=none):
  Calls Tryz.prog 11 #[v] w fun e w'=>e= .returned (.agg #[.int .i64 c,.int .i64 p,.int .i64 0])∧Below w.heap.size w w':=by
 obtain ⟨vt,vv,rfl⟩:=hc.held ⟨_,_,rfl⟩
 have hb0:Below w.heap.size w (w.alloc (.cells #[.int .i64 0,.int .i64 0,.int .i64 0] 32)):=(Below.refl _ _).alloc (Nat.le_refl _) _
 have HL:=Lib.hid (nD l _ a s c _ (hs.below hb0) (hr.below hb0) (hc.below hb0))
 have HB0:=Lib.hid hb0
 have HS:=Lib.hid hs
 have HC:=Lib.hid hc
 have HP:=Lib.hid hp
 have HQ:=Lib.hid hq
 clear hs hr hc hb0 hp hq
 go_enter Tryz.func11,Tryz.ntmps11
 go_wp2_with fail
 refine HL.out.mono ?_
 rintro e w1 ⟨rfl,hb1⟩
 have N1:=Lib.hid (fG _ _ hb1)
 have hz1:w.heap.size<w1.heap.size:=by have:=hb1.size;simp at this;omega
 have HB1:=Lib.hid (Below.step HB0.out hb1)
 clear hb1
 go_wp2_with fail
 have hb1':Below w1.heap.size w1 (w1.alloc (.cells #[.int .i64 c,.int .i64 0,.int .i64 0] 32)):=(Below.refl _ _).alloc (Nat.le_refl _) _
 have HA1:=Lib.hid hb1'
 clear hb1'
 refine (BP l _ a s _ (HS.out.below (Below.step HB1.out HA1.out)) (HC.out.below (Below.step HB1.out HA1.out)) p HP.out).mono ?_
 rintro e w2 ⟨k,x,rfl,hk,hb2⟩
 have kk:=bQ hk hb2
 have kc:w2.cell? ⟨k,1,none⟩=some (.int .i64 p):=by simp [World.cell?,kk]
 have n2:=fG _ _ hb2
 have r2:=bQ N1.out (Below.step HA1.out hb2)
 obtain ⟨a0,a1,a2,g0,g1,g2⟩:=Fh.of n2
 have hz2:w1.heap.size<w2.heap.size:=by have:=hb2.size;simp at this;omega
 have HB2:=Lib.hid (Below.step HB1.out (Below.step HA1.out hb2))
 have N2:=Lib.hid n2
 have R2:=Lib.hid r2
 clear hb2 n2 r2 hk kk
 go_wp2_with fail
 have HB3:Hid (Below w.heap.size w (w2.setCell ⟨w1.heap.size,1,none⟩ (.int .i64 p))):=HB2.out.setCell (p:=⟨w1.heap.size,1,none⟩) (Nat.le_of_lt hz1) _
 have N3:=Lib.hid (set1 N2.out (.int .i64 p))
 have R3:=Lib.hid (FH R2.out ⟨w1.heap.size,1,none⟩ (Nat.ne_of_gt hz1) (.int .i64 p))
 refine (yR l _ a s _ (HS.out.below HB3.out) (HC.out.below HB3.out) HQ.out).mono ?_
 rintro e w4 ⟨rfl,hb4⟩
 have n4:=bQ N3.out hb4
 have r4:=bQ R3.out hb4
 have Nz:w1.heap.size<w4.heap.size:=Nat.lt_of_lt_of_le (by simpa using hz2) hb4.size
 obtain ⟨b0,b1,b2,h0,h1,h2⟩:=Fh.of n4
 obtain ⟨d0,d1,d2,i0,i1,i2⟩:=Fh.of r4
 have HB4:=Lib.hid (Below.step HB3.out hb4)
 clear a0 a1 a2 g0 g1 g2 hb4 n4 r4 kc
 go_wp2
 refine bodyPost_ret (v:= .agg #[.int .i64 c,.int .i64 p,.int .i64 0]) (by simp [results,Tryz.results11,go_sem,d0,d1,d2]) rfl ⟨rfl,?_⟩
 repeat' first | exact HB4.out | refine Below.drew ?_ | refine Below.setCell ?_ ?_ _ | (simp;done) | exact Nat.le_of_lt hz1
theorem OD (l:List (Bool × Int)) (v:Value) (a:Addr) (s:Nat→Addr) (c:Nat) (w:World) (hs:o7 w s) (hr:Rt w s a c) (hc:kJ w l v (bot a)) (hp:aO false l=none) (q:Int) (hq:aO true l=some q):
  Calls Tryz.prog 11 #[v] w fun e w'=>e= .returned (.agg #[.int .i64 c,.int .i64 0,.int .i64 q])∧Below w.heap.size w w':=by
 obtain ⟨vt,vv,rfl⟩:=hc.held ⟨_,_,rfl⟩
 have hb0:Below w.heap.size w (w.alloc (.cells #[.int .i64 0,.int .i64 0,.int .i64 0] 32)):=(Below.refl _ _).alloc (Nat.le_refl _) _
 have HL:=Lib.hid (nD l _ a s c _ (hs.below hb0) (hr.below hb0) (hc.below hb0))
 have HB0:=Lib.hid hb0
 have HS:=Lib.hid hs
 have HC:=Lib.hid hc
 have HP:=Lib.hid hp
 have HQ:=Lib.hid hq
 clear hs hr hc hb0 hp hq
 go_enter Tryz.func11,Tryz.ntmps11
 go_wp2_with fail
 refine HL.out.mono ?_
 rintro e w1 ⟨rfl,hb1⟩
 have N1:=Lib.hid (fG _ _ hb1)
 have hz1:w.heap.size<w1.heap.size:=by have:=hb1.size;simp at this;omega
 have HB1:=Lib.hid (Below.step HB0.out hb1)
 clear hb1
 go_wp2_with fail
 have hb1':Below w1.heap.size w1 (w1.alloc (.cells #[.int .i64 c,.int .i64 0,.int .i64 0] 32)):=(Below.refl _ _).alloc (Nat.le_refl _) _
 have HA1:=Lib.hid hb1'
 clear hb1'
 refine (yS l _ a s _ (HS.out.below (Below.step HB1.out HA1.out)) (HC.out.below (Below.step HB1.out HA1.out)) HP.out).mono ?_
 rintro e w2 ⟨rfl,hb2⟩
 have n2:=fG _ _ hb2
 have r2:=bQ N1.out (Below.step HA1.out hb2)
 obtain ⟨a0,a1,a2,g0,g1,g2⟩:=Fh.of n2
 have hz2:w1.heap.size<w2.heap.size:=by have:=hb2.size;simp at this;omega
 have HB2:=Lib.hid (Below.step HB1.out (Below.step HA1.out hb2))
 have N2:=Lib.hid n2
 have R2:=Lib.hid r2
 clear hb2 n2 r2
 go_wp2_with fail
 have HB3:Hid (Below w.heap.size w w2):=HB2.out
 have N3:=Lib.hid N2.out
 have R3:=Lib.hid R2.out
 refine (BO l _ a s _ (HS.out.below HB3.out) (HC.out.below HB3.out) q HQ.out).mono ?_
 rintro e w4 ⟨k',x',rfl,hk',hb4⟩
 have Yy:=bQ hk' hb4
 have kc':w4.cell? ⟨k',1,none⟩=some (.int .i64 q):=by simp [World.cell?,Yy]
 have n4:=bQ N3.out hb4
 have r4:=bQ R3.out hb4
 have Nz:w1.heap.size<w4.heap.size:=Nat.lt_of_lt_of_le (by simpa using hz2) hb4.size
 obtain ⟨b0,b1,b2,h0,h1,h2⟩:=Fh.of n4
 obtain ⟨d0,d1,d2,i0,i1,i2⟩:=Fh.of r4
 have HB4:=Lib.hid (Below.step HB3.out hb4)
 clear a0 a1 a2 g0 g1 g2 hb4 n4 r4 hk' Yy
 go_wp2
 refine bodyPost_ret (v:= .agg #[.int .i64 c,.int .i64 0,.int .i64 q]) (by simp [results,Tryz.results11,go_sem,d0,d1,d2]) rfl ⟨rfl,?_⟩
 repeat' first | exact HB4.out | refine Below.drew ?_ | refine Below.setCell ?_ ?_ _ | (simp;done) | exact Nat.le_of_lt hz1
theorem OC (l:List (Bool × Int)) (v:Value) (a:Addr) (s:Nat→Addr) (c:Nat) (w:World) (hs:o7 w s) (hr:Rt w s a c) (hc:kJ w l v (bot a)) (hp:aO false l=none) (hq:aO true l=none):
  Calls Tryz.prog 11 #[v] w fun e w'=>e= .returned (.agg #[.int .i64 c,.int .i64 0,.int .i64 0])∧Below w.heap.size w w':=by
 obtain ⟨vt,vv,rfl⟩:=hc.held ⟨_,_,rfl⟩
 have hb0:Below w.heap.size w (w.alloc (.cells #[.int .i64 0,.int .i64 0,.int .i64 0] 32)):=(Below.refl _ _).alloc (Nat.le_refl _) _
 have HL:=Lib.hid (nD l _ a s c _ (hs.below hb0) (hr.below hb0) (hc.below hb0))
 have HB0:=Lib.hid hb0
 have HS:=Lib.hid hs
 have HC:=Lib.hid hc
 have HP:=Lib.hid hp
 have HQ:=Lib.hid hq
 clear hs hr hc hb0 hp hq
 go_enter Tryz.func11,Tryz.ntmps11
 go_wp2_with fail
 refine HL.out.mono ?_
 rintro e w1 ⟨rfl,hb1⟩
 have N1:=Lib.hid (fG _ _ hb1)
 have hz1:w.heap.size<w1.heap.size:=by have:=hb1.size;simp at this;omega
 have HB1:=Lib.hid (Below.step HB0.out hb1)
 clear hb1
 go_wp2_with fail
 have hb1':Below w1.heap.size w1 (w1.alloc (.cells #[.int .i64 c,.int .i64 0,.int .i64 0] 32)):=(Below.refl _ _).alloc (Nat.le_refl _) _
 have HA1:=Lib.hid hb1'
 clear hb1'
 refine (yS l _ a s _ (HS.out.below (Below.step HB1.out HA1.out)) (HC.out.below (Below.step HB1.out HA1.out)) HP.out).mono ?_
 rintro e w2 ⟨rfl,hb2⟩
 have n2:=fG _ _ hb2
 have r2:=bQ N1.out (Below.step HA1.out hb2)
 obtain ⟨a0,a1,a2,g0,g1,g2⟩:=Fh.of n2
 have hz2:w1.heap.size<w2.heap.size:=by have:=hb2.size;simp at this;omega
 have HB2:=Lib.hid (Below.step HB1.out (Below.step HA1.out hb2))
 have N2:=Lib.hid n2
 have R2:=Lib.hid r2
 clear hb2 n2 r2
 go_wp2_with fail
 have HB3:Hid (Below w.heap.size w w2):=HB2.out
 have N3:=Lib.hid N2.out
 have R3:=Lib.hid R2.out
 refine (yR l _ a s _ (HS.out.below HB3.out) (HC.out.below HB3.out) HQ.out).mono ?_
 rintro e w4 ⟨rfl,hb4⟩
 have n4:=bQ N3.out hb4
 have r4:=bQ R3.out hb4
 have Nz:w1.heap.size<w4.heap.size:=Nat.lt_of_lt_of_le (by simpa using hz2) hb4.size
 obtain ⟨b0,b1,b2,h0,h1,h2⟩:=Fh.of n4
 obtain ⟨d0,d1,d2,i0,i1,i2⟩:=Fh.of r4
 have HB4:=Lib.hid (Below.step HB3.out hb4)
 clear a0 a1 a2 g0 g1 g2 hb4 n4 r4
 go_wp2
 refine bodyPost_ret (v:= .agg #[.int .i64 c,.int .i64 0,.int .i64 0]) (by simp [results,Tryz.results11,go_sem,d0,d1,d2]) rfl ⟨rfl,?_⟩
 repeat' first | exact HB4.out | refine Below.drew ?_ | refine Below.setCell ?_ ?_ _ | (simp;done) | exact Nat.le_of_lt hz1
theorem KI (l:List (Bool × Int)) (v:Value) (a:Addr) (s:Nat→Addr) (c:Nat) (w:World) (hs:o7 w s) (hr:Rt w s a c) (hc:kJ w l v (bot a)):
  Calls Tryz.prog 11 #[v] w fun e w'=>e= .returned (.agg #[.int .i64 c,.int .i64 ((aO false l).getD 0),.int .i64 ((aO true l).getD 0)])∧Below w.heap.size w w':=by
 cases hp:aO false l with
 | none=>cases hq:aO true l with
  | none=>exact OC l v a s c w hs hr hc hp hq
  | some q=>exact OD l v a s c w hs hr hc hp q hq
 | some p=>cases hq:aO true l with
  | none=>exact OE l v a s c w hs hr hc p hp hq
  | some q=>exact OG l v a s c w hs hr hc p hp q hq
end Go.Proofs.YtacfglopionkfaaGreatDoor
