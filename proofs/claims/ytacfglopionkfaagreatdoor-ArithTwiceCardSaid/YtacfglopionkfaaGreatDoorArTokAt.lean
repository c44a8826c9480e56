import Derived.Test.YtacfglopionkfaaGreatDoorArOp
namespace Go.Proofs.YtacfglopionkfaaGreatDoor
set_option maxRecDepth 100000
open Go.RowKit
def Tk.v (t:Tk):Value:= .agg #[.int .i64 t.kind,.int .i64 t.start,.int .i64 t.stop,.string t.text,.int .i64 t.num,.bool t.over]
theorem bJ (l:List Int) (p:Nat) (h:p≤l.length):ay l p≤l.length:=by
 have:=vU bM (l.drop p)
 rw [List.length_drop] at this
 unfold ay
 omega
theorem J5 {l:List Int} {p k:Nat} (hk:p+k≤l.length) (h1: ∀j,j<k→bM (l.getD (p+j) 0)=true) (h2:p+k<l.length→bM (l.getD (p+k) 0)=false):
  tok l p=gY (l.drop (p+k)) (p+k):=by
 have:pre bM (l.drop p)=k:=uZ _ _ k (by simp;omega) (fun j hj=>by have:=h1 j hj;simpa [List.getD,List.getElem?_drop] using this) (fun h=>by have:=h2 (by simp at h;omega);simpa [List.getD,List.getElem?_drop] using this)
 unfold tok ay
 rw [this]
theorem fG (w:World) (o:Obj) {w1:World} (hb:Below (w.alloc o).heap.size (w.alloc o) w1):w1.heap[w.heap.size]? =some o:=
 (hb.block _ (by simp)).trans (heap_alloc_last w o)
theorem setRow_self {w:World} {g:Nat} {old:Array Value} {t:TypeId} (h:w.heap[g]? =some (.cells old t (0,0))) (c:Array Value):(w.setRow g c).heap[g]? =some (.cells c t (0,0)):=by
 show (w.heap.modify g _)[g]? =_
 rw [Array.getElem?_modify,if_pos rfl,h]
 rfl
theorem below_setRow {B:Nat} {w w':World} (h:Below B w w') {g:Nat} (hg:B≤g) (c:Array Value):Below B w (w'.setRow g c):=
 ⟨h.os,h.tape,h.output,by simpa [World.setRow] using h.size,fun k hk=>by
  show (w'.heap.modify g _)[k]? =_
  rw [Array.getElem?_modify,if_neg (by omega)]
  exact h.block k hk⟩
theorem zH:(Tryz.prog.info? 133).map (·.size)=some 6:=by kernel_rfl
theorem jX {ops:Array Oper} {rest:List Oper} {o:Oper} {a:Act} {w:World} {Q:Exit→Act→World→Prop} (hgd:o.guard=none) (x y:Operand) (ho:o.op= .store 133 x y)
  (hd:o.dst=none) (g:Nat) (kd st en:Int) (tx:ByteArray) (nm:Int) (ov:Bool) (hx:a.eval x= .pointer (some ⟨g,0,none⟩)) (hy:a.eval y= .agg #[.int .i64 kd,.int .i64 st,.int .i64 en,.string tx,.int .i64 nm,.bool ov])
  (old:Array Value) (hg:w.heap[g]? =some (.cells old 133 (0,0))) (hold:old.size=6)
  (h:wpList Tryz.prog ops Q rest a (w.setRow g #[.int .i64 kd,.int .i64 st,.int .i64 en,.string tx,.int .i64 nm,.bool ov])):wpList Tryz.prog ops Q (o::rest) a w:=
 wpList_store_rowTo hgd _ x y ho hd g _ hx hy _ old hg zH hold (by simp [Value.oneCell']) h
theorem vg (l:List Int):cN l≤l.length:=by
 unfold cN
 split
 ·have:=Gu 16 (l.drop 2)
  rename_i h
  unfold jv at h
  simp at h this
  omega
 ·exact Gu _ _
theorem kX (l:List Int): ∀(L:List ByteArray),dJ l L=ak∨(dJ l L∈L∧begins l (dJ l L)=true)
 | []=>Or.inl rfl
 | s::L=>by
  unfold dJ
  by_cases h:begins l s=true
  ·rw [if_pos h];exact Or.inr ⟨by simp,h⟩
  ·rw [if_neg h]
   rcases kX l L with h | ⟨h1,h2⟩
   ·exact Or.inl h
   ·exact Or.inr ⟨by simp [h1],h2⟩
theorem zq (l:List Int):(mG l).size≤l.length:=by
 rcases kX l aF with h | ⟨_,h2⟩
 ·show (dJ l aF).size≤_
  rw [h];simp [ak,ByteArray.size]
 ·unfold begins at h2
  simp only [Bool.and_eq_true,decide_eq_true_eq] at h2
  exact h2.1
theorem rE (l:List Int):fC l≤l.length:=(iL _ _).1
theorem zo {r:List Int} {q:Nat} (h0:0<r.length) (h:0<fC r):gY r q=⟨3,q,q+fC r,dI (r.take (fC r)),0,false⟩:=by
 unfold gY;rw [if_neg (by omega),if_pos h]
theorem Au {r:List Int} {q:Nat} (h0:0<r.length) (h: ¬0<fC r) (hc:0<cN r):gY r q=⟨2,q,q+cN r,ak,cV r,cO r⟩:=by
 unfold gY;rw [if_neg (by omega),if_neg h,if_pos hc]
theorem yF {r:List Int} {q:Nat} (h0:0<r.length) (h: ¬0<fC r) (hc: ¬0<cN r) (ho: ¬mG r=ak):gY r q=⟨4,q,q+(mG r).size,mG r,0,false⟩:=by
 unfold gY;rw [if_neg (by omega),if_neg h,if_neg hc,if_pos ho]
theorem Ar {r:List Int} {q:Nat} (h0:0<r.length) (h: ¬0<fC r) (hc: ¬0<cN r) (ho:mG r=ak):gY r q=⟨1,q,q,ak,0,false⟩:=by
 unfold gY;rw [if_neg (by omega),if_neg h,if_neg hc,if_neg (by simpa using ho)]
set_option maxHeartbeats 4000000 in
theorem zU (a:Option Addr) (cap:Nat) (w:World):
  Calls Tryz.prog 72 #[.slice a 0 cap,.int .i64 0] w fun e w'=>e= .returned (tok [] 0).v∧Below w.heap.size w w':=by
 have HT:Hid ((tok [] 0).v= .agg #[.int .i64 0,.int .i64 0,.int .i64 0,.string ⟨#[]⟩,.int .i64 0,.bool false]):=Lib.hid rfl
 go_enter Tryz.func72,Tryz.ntmps72
 go_wp2
 go_loop [1] (fun i=>i= .int .i64 0) (fun _=>0)
 case atStart=>rfl
 case round=>
  obtain rfl:=hrel
  cases a with
  | none=>
   go_wp2
   all_goals exact bodyPost_ret (v:= .agg #[.int .i64 0,.int .i64 0,.int .i64 0,.string ⟨#[]⟩,.int .i64 0,.bool false]) (by simp [results,Tryz.results72,go_sem]) rfl ⟨by rw [HT.out],(Below.refl _ _).alloc (Nat.le_refl _) _⟩
  | some a=>
   go_wp2
   all_goals exact bodyPost_ret (v:= .agg #[.int .i64 0,.int .i64 0,.int .i64 0,.string ⟨#[]⟩,.int .i64 0,.bool false]) (by simp [results,Tryz.results72,go_sem]) rfl ⟨by rw [HT.out],(Below.refl _ _).alloc (Nat.le_refl _) _⟩
set_option maxHeartbeats 4000000 in
theorem xX (b o cap:Nat) (l:List Int) (p:Nat) (w:World) (hl:l.length≤9223372036854775807) (hcl:l.length≤cap) (hcm:cap≤9223372036854775807) (hy:nN l) (hc:Row w b o l) (hp:p≤l.length):
  Calls Tryz.prog 72 #[.slice (some ⟨b,o,none⟩) l.length cap,.int .i64 p] w fun e w'=>e= .returned (tok l p).v∧Below w.heap.size w w':=by
 have HC:=Lib.hid hc
 have HY:=Lib.hid hy
 clear hc hy
 obtain ⟨n,hn⟩: ∃n,n=l.length:=⟨_,rfl⟩
 rw [←hn] at hl hcl hp⊢
 have HN:=Lib.hid hn
 clear hn
 go_enter Tryz.func72,Tryz.ntmps72
 go_wp2
 have HR:Hid (∀k,p+k<n→(w.alloc (.cells #[.int .i64 0,.int .i64 0,.int .i64 0,.string ⟨#[]⟩,.int .i64 0,.bool false] 133)).cell? ⟨b,o+(p+k),none⟩=some (.int .u8 (l.getD (p+k) 0))):=
  Lib.hid (fun k hk=>(HC.out.below ((Below.refl _ _).alloc (Nat.le_refl _) _)) (p+k) (by rw [←HN.out];exact hk))
 go_loop [1] (fun i=> ∃k:Nat,p+k≤n∧(∀j,j<k→bM (l.getD (p+j) 0)=true)∧i= .int .i64 (↑(p+k):Int)) (fun i=>n - (intOf i).toNat)
 case atStart=>exact ⟨0,by omega,fun j hj=>absurd hj (by omega),rfl⟩
 case round=>
  obtain ⟨k,hk,hd,rfl⟩:=hrel
  have HD:=Lib.hid hd
  clear hd
  by_cases hlt:p+k<n
  ·have hcell:=HR.out k hlt
   have hw:=CX (l.getD (p+k) 0)
   obtain ⟨x,hx⟩: ∃x,x=bM (l.getD (p+k) 0):=⟨_,rfl⟩
   rw [←hx] at hw
   have HX:=Lib.hid hx
   clear hx
   have HW:=Lib.hid hw
   clear hw
   cases x with
   | true=>
    go_wp2_with (go_at_call 103;refine (HW.out _).mono ?_;rintro e w' ⟨rfl,rfl⟩)
    go_round
    case rel=>
     refine ⟨k+1,by omega,fun j hj=>?_,by go_num⟩
     by_cases hjk:j=k
     ·rw [hjk];exact HX.out.symm
     ·exact HD.out j (by omega)
    case measure=>simp [intOf];omega
   | false=>
    have hT0:tok l p=gY (l.drop (p+k)) (p+k):=J5 (k:=k) (by rw [←HN.out];omega) HD.out (fun _=>HX.out.symm)
    have HT0:=Lib.hid hT0
    clear hT0
    have Gi:Hid (∀W:World,Below w.heap.size w W→Sl W (.slice (some ⟨b,o+(p+k),none⟩) (n - (p+k)) (cap - (p+k))) (l.drop (p+k))):=Lib.hid (fun W hW=>by
     have:=Sl.drop HY.out (by rw [←HN.out];exact hl) (by rw [←HN.out];exact hcl) hcm (HC.out.below hW) (p+k) (by rw [←HN.out];exact hk)
     rw [←HN.out] at this
     exact this)
    have hrl:(l.drop (p+k)).length=n - (p+k):=by rw [List.length_drop, ←HN.out]
    have Q8:=Lib.hid hrl
    have HRow:Hid (∀(W:World) (x:Nat),Below w.heap.size w W→x≤n - (p+k)→(convert 22 9 (.slice (some ⟨b,o+(p+k),none⟩) x (cap - (p+k)))).run Tryz.prog W= .ok (.string (dI ((l.drop (p+k)).take x))) W):=Lib.hid (fun W x hW hx=>by
     obtain ⟨hy',hl',⟨h0,_⟩ | ⟨b',o',cap',hv,hcl',hcm',hr'⟩⟩:=Gi.out W hW
     ·rw [h0] at hrl;simp at hrl;omega
     ·simp only [Value.slice.injEq,Option.some.injEq,Addr.mk.injEq,and_true] at hv
      obtain ⟨⟨rfl,rfl⟩,_,rfl⟩:=hv
      exact jY (Sl.take hy' hl' hcl' hcm' hr' x (by omega)))
    clear hrl
    have HB0:Hid (∀o,Below w.heap.size w (w.alloc o)):=Lib.hid (fun o=>(Below.refl _ _).alloc (Nat.le_refl _) o)
    generalize l.drop (p+k)=r at*
    have hx:=rE r
    rw [Q8.out] at hx
    by_cases h1:0<fC r
    ·have HT:Hid (gY r (p+k)=⟨3,p+k,p+k+fC r,dI (r.take (fC r)),0,false⟩):=Lib.hid (zo (by rw [Q8.out];omega) h1)
     have Fb:Hid (∀W v,Sl W v r→Calls Tryz.prog 92 #[v] W (fun e w'=>e= .returned (.int .i64 (fC r))∧W=w')):=Lib.hid (fun W v h=>zu v r W h)
     generalize fC r=x at*
     have hxi:(0:Int)<x:=by omega
     have hcv:=HRow.out (w.alloc (.cells #[.int .i64 0,.int .i64 0,.int .i64 0,.string ⟨#[]⟩,.int .i64 0,.bool false] 133)) x (HB0.out _) hx
     generalize dI (r.take x)=u at*
     go_wp2_with (first | (go_at_call 103;refine (HW.out _).mono ?_;rintro e w' ⟨rfl,rfl⟩) | (go_at_call 92;refine (Fb.out _ _ (Gi.out _ (HB0.out _))).mono ?_;rintro e w' ⟨rfl,rfl⟩))
     all_goals exact bodyPost_ret (v:= .agg #[.int .i64 3,.int .i64 (↑p+ ↑k),.int .i64 (↑p+ ↑k+ ↑x),.string u,.int .i64 0,.bool false]) (by simp [results,Tryz.results72,go_sem]) rfl ⟨by rw [HT0.out,HT.out];simp [Tk.v],(Below.refl _ _).alloc (Nat.le_refl _) _⟩
    ·have hx0:fC r=0:=by omega
     have Fb:Hid (∀W v,Sl W v r→Calls Tryz.prog 92 #[v] W (fun e w'=>e= .returned (.int .i64 0)∧W=w')):=Lib.hid (fun W v h=>by
      have:=zu v r W h
      have e:iG (nameB r) r.length=0:=hx0
      rw [e] at this
      exact this)
     have HC2:Hid (∀W v,Sl W v r→Calls Tryz.prog 104 #[v] W (fun e w'=>e= .returned (.tuple #[.int .i64 (cV r),.int .i64 (cN r),.bool (cO r)])∧W=w')):=Lib.hid (fun W v h=>uf v r W h)
     have hcn:=vg r
     rw [Q8.out] at hcn
     clear hx
     by_cases h2:0<cN r
     ·have HT:Hid (gY r (p+k)=⟨2,p+k,p+k+cN r,ak,cV r,cO r⟩):=Lib.hid (Au (by rw [Q8.out];omega) h1 h2)
      generalize cN r=x at*
      generalize cV r=y at*
      generalize cO r=z at*
      have hxi:(0:Int)<x:=by omega
      clear hx0 h1
      go_wp2_with (first | (go_at_call 103;refine (HW.out _).mono ?_;rintro e w' ⟨rfl,rfl⟩) | (go_at_call 92;refine (Fb.out _ _ (Gi.out _ (HB0.out _))).mono ?_;rintro e w' ⟨rfl,rfl⟩) | (go_at_call 104;refine (HC2.out _ _ (Gi.out _ (HB0.out _))).mono ?_;rintro e w' ⟨rfl,rfl⟩))
      all_goals exact bodyPost_ret (v:= .agg #[.int .i64 2,.int .i64 (↑p+ ↑k),.int .i64 (↑p+ ↑k+ ↑x),.string ⟨#[]⟩,.int .i64 y,.bool z]) (by simp [results,Tryz.results72,go_sem]) rfl ⟨by rw [HT0.out,HT.out];simp [Tk.v,ak],(Below.refl _ _).alloc (Nat.le_refl _) _⟩
     ·have hc0:cN r=0:=by omega
      have Ai:Hid (∀W v,Sl W v r→Calls Tryz.prog 105 #[v] W (fun e w'=>e= .returned (.string (mG r))∧Below W.heap.size W w')):=Lib.hid (fun W v h=>wX v r W h (by rw [Q8.out];omega))
      have hos:=zq r
      rw [Q8.out] at hos
      by_cases h3:mG r=ak
      ·have HT:Hid (gY r (p+k)=⟨1,p+k,p+k,ak,0,false⟩):=Lib.hid (Ar (by rw [Q8.out];omega) h1 h2 h3)
       have h3':mG r=⟨#[]⟩:=h3
       rw [h3'] at Ai
       clear h3'
       rw [hc0] at HC2
       generalize cV r=y at*
       generalize cO r=z at*
       clear hx0 h1 h2 hc0 h3 hcn hos
       go_wp2_with (first | (go_at_call 103;refine (HW.out _).mono ?_;rintro e w' ⟨rfl,rfl⟩) | (go_at_call 92;refine (Fb.out _ _ (Gi.out _ (HB0.out _))).mono ?_;rintro e w' ⟨rfl,rfl⟩) | (go_at_call 104;refine (HC2.out _ _ (Gi.out _ (HB0.out _))).mono ?_;rintro e w' ⟨rfl,rfl⟩))
       refine (Ai.out _ _ (Gi.out _ (HB0.out _))).mono ?_
       rintro e w1 ⟨rfl,hb⟩
       have hblk:=fG w _ hb
       have Jm:Hid (Below w.heap.size w w1):=Lib.hid ((HB0.out _).trans (hb.mono (by simp)))
       clear hb
       have vN:=Lib.hid hblk
       clear hblk
       go_wp2_with (refine jX rfl _ _ rfl rfl w.heap.size 1 (↑p+ ↑k) (↑p+ ↑k) ⟨#[]⟩ 0 false rfl rfl _ vN.out rfl ?_)
       exact bodyPost_ret (results_cell_row rfl _ _ w.heap.size 133 #[.int .i64 1,.int .i64 (↑p+ ↑k),.int .i64 (↑p+ ↑k),.string ⟨#[]⟩,.int .i64 0,.bool false] (0,0) _ rfl (setRow_self vN.out _) Tryz.underlying133 rfl (by kernel_rfl)) rfl ⟨by rw [HT0.out,HT.out];simp [Tk.v,ak],below_setRow Jm.out (Nat.le_refl _) _⟩
      ·have HT:Hid (gY r (p+k)=⟨4,p+k,p+k+(mG r).size,mG r,0,false⟩):=Lib.hid (yF (by rw [Q8.out];omega) h1 h2 h3)
       rw [hc0] at HC2
       generalize mG r=u at*
       generalize cV r=y at*
       generalize cO r=z at*
       have hes:u.toList.isEmpty=false:=by have:=aX (l:=[]) h3;simpa using this
       clear hx0 h1 h2 hc0 h3 hcn
       go_wp2_with (first | (go_at_call 103;refine (HW.out _).mono ?_;rintro e w' ⟨rfl,rfl⟩) | (go_at_call 92;refine (Fb.out _ _ (Gi.out _ (HB0.out _))).mono ?_;rintro e w' ⟨rfl,rfl⟩) | (go_at_call 104;refine (HC2.out _ _ (Gi.out _ (HB0.out _))).mono ?_;rintro e w' ⟨rfl,rfl⟩))
       refine (Ai.out _ _ (Gi.out _ (HB0.out _))).mono ?_
       rintro e w1 ⟨rfl,hb⟩
       have hblk:=fG w _ hb
       have Jm:Hid (Below w.heap.size w w1):=Lib.hid ((HB0.out _).trans (hb.mono (by simp)))
       clear hb
       have vN:=Lib.hid hblk
       clear hblk
       go_wp2_with (refine jX rfl _ _ rfl rfl w.heap.size 4 (↑p+ ↑k) (↑p+ ↑k+ ↑u.size) u 0 false rfl rfl _ vN.out rfl ?_)
       exact bodyPost_ret (results_cell_row rfl _ _ w.heap.size 133 #[.int .i64 4,.int .i64 (↑p+ ↑k),.int .i64 (↑p+ ↑k+ ↑u.size),.string u,.int .i64 0,.bool false] (0,0) _ rfl (setRow_self vN.out _) Tryz.underlying133 rfl (by kernel_rfl)) rfl ⟨by rw [HT0.out,HT.out];simp [Tk.v],below_setRow Jm.out (Nat.le_refl _) _⟩
  ·obtain rfl:n=p+k:=by omega
   have HT:Hid ((tok l p).v= .agg #[.int .i64 0,.int .i64 (↑p+ ↑k),.int .i64 (↑p+ ↑k),.string ⟨#[]⟩,.int .i64 0,.bool false]):=Lib.hid (by
    rw [J5 (k:=k) (by rw [←HN.out];omega) HD.out (fun h=>absurd h (by rw [←HN.out];omega))]
    unfold gY
    rw [if_pos (by simp [←HN.out])]
    simp [Tk.v,ak])
   go_wp2
   all_goals exact bodyPost_ret (v:= .agg #[.int .i64 0,.int .i64 (↑p+ ↑k),.int .i64 (↑p+ ↑k),.string ⟨#[]⟩,.int .i64 0,.bool false]) (by simp [results,Tryz.results72,go_sem]) rfl ⟨by rw [HT.out],(Below.refl _ _).alloc (Nat.le_refl _) _⟩
end Go.Proofs.YtacfglopionkfaaGreatDoor
