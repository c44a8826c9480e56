import Derived.Test.YtkakhfkkeoceiaaGreatDoorKSp
import Derived.Test.YtkakhfkkeoceiaaGreatDoorAcCo
import Derived.Deep.LoopGhost
namespace Go.Proofs.YtkakhfkkeoceiaaGreatDoor
open Go.RowKit Go.WideMaps Go.Maps
structure InsOk (i : Ins) : Prop where
 nm : i.nm.size ≤ maxLen
 n : i.k = 0 → I64 i.n
structure MsOk (m : Ms) : Prop where
 st : ∀ x ∈ m.st, I64 x
 h : m.st.length ≤ 1024
 se : m.se.length ≤ m.a
theorem MsOk.push {a : Nat} {st : List Int} {se : Asc} {x : Int} (h : MsOk ⟨a, st, se⟩) (hx : I64 x) (hl : st.length < 1024) : MsOk ⟨a, x :: st, se⟩ :=
 ⟨fun y hy => by rcases List.mem_cons.1 hy with rfl | hy; exact hx; exact h.st y hy, by simp only [List.length_cons]; omega, h.se⟩
theorem MsOk.pop {a : Nat} {st : List Int} {se : Asc} {x : Int} (h : MsOk ⟨a, x :: st, se⟩) : MsOk ⟨a, st, se⟩ ∧ st.length < 1024 ∧ I64 x :=
 ⟨⟨fun y hy => h.st y (List.mem_cons_of_mem _ hy), by have := h.h; simp only [List.length_cons] at this; show st.length ≤ 1024; omega, h.se⟩, by have := h.h; simp only [List.length_cons] at this; omega, h.st x List.mem_cons_self⟩
theorem MsOk.to {a b : Nat} {st : List Int} {se : Asc} (h : MsOk ⟨a, st, se⟩) (hab : a ≤ b) : MsOk ⟨b, st, se⟩ := ⟨h.st, h.h, Nat.le_trans h.se hab⟩
def StepQ (B mb mp : Nat) (v : Option Addr) (w0 : World) (sn : Nat → Addr) (s a : Nat) : So → Ending → World → Prop
 | .go m', e, w' => e = .returned .nilIface ∧ RunAt B mb mp v w0 m' s w' ∧ MsOk m' ∧ a ≤ m'.a
 | .bad c p, e, w' => ∃ pv, e = .returned (.iface 96 pv) ∧ ErrAt w' sn c p (.iface 96 pv) ∧ Below B w0 w'
theorem res_ops {op : ByteArray} {l r y : Int} (h : resO op l r = some y) : ¬ op = ⟨#[47]⟩ ∧ ¬ op = ⟨#[37]⟩ := by
 unfold resO at h
 by_cases c : op = sPlus
 ·subst c; decide
 ·rw [if_neg c] at h
  by_cases d : op = sMul
  ·subst d; decide
  ·rw [if_neg d] at h; cases h
theorem step_any (B mb mp : Nat) (v : Option Addr) (w0 X : World) (val : ByteArray → ByteArray) (NV : ByteArray → Int × Nat) (sn : Nat → Addr) (hE : EnvC B v w0 val NV) (hsn : ∀ Y, Below B w0 Y → Er Y sn)
  (i : Ins) (m : Ms) (out : So) (s : Nat) (hs : stp NV i m = some out) (hi : InsOk i) (hm : MsOk m) (hse : m.se.length + 1 ≤ m.a) (ha : m.a ≤ 1000000) (h : RunAt B mb mp v w0 m s X) :
  Calls Tryz.prog 99 #[.pointer (some ⟨mb, 0, none⟩), .agg i.cells.toArray] X fun e w' => StepQ B mb mp v w0 sn s m.a out e w' := by
 obtain ⟨k, n, nm, op, p, tg⟩ := i
 obtain ⟨a, st, se⟩ := m
 have hnm : nm.size ≤ maxLen := hi.nm
 simp only [] at hse ha
 match k, hs, hi with
 | 0, hs, hi =>
  have hs : pushS n ⟨a, st, se⟩ = some out := hs
  unfold pushS at hs
  by_cases hl : st.length < 1024
  ·rw [if_pos hl] at hs
   obtain rfl := Option.some.inj hs
   refine (step_push B mb mp v w0 X n nm op p tg st a se s h hl).mono ?_
   rintro e w' ⟨rfl, hr⟩
   exact ⟨rfl, hr, hm.push (hi.n rfl) hl, Nat.le_refl _⟩
  ·rw [if_neg hl] at hs; cases hs
 | 1, hs, hi =>
  have hs : (match ldR NV nm p se with | .ok v _ => pushS v ⟨a, st, se⟩ | .bad c p => some (.bad c p) | .no => none) = some out := hs
  have hl : ∀ x, ldR NV nm p se = .ok x se → st.length < 1024 := fun x hx => by
   rw [hx] at hs
   have hs : pushS x ⟨a, st, se⟩ = some out := hs
   unfold pushS at hs
   by_cases hl : st.length < 1024
   ·exact hl
   ·rw [if_neg hl] at hs; cases hs
  refine (step_load B mb mp v w0 X n nm op p tg st val NV sn a se s h hE hl hnm hsn).mono ?_
  rintro e w' (⟨x, hx, hix, rfl, hr⟩ | ⟨c, pv, hx, rfl, her, hb⟩)
  ·have hlx := hl x hx
   rw [hx] at hs
   have hs : pushS x ⟨a, st, se⟩ = some out := hs
   unfold pushS at hs
   rw [if_pos hlx] at hs
   obtain rfl := Option.some.inj hs
   exact ⟨rfl, hr, hm.push hix hlx, Nat.le_refl _⟩
  ·rw [hx] at hs
   obtain rfl := Option.some.inj hs
   exact ⟨pv, rfl, her, hb⟩
 | 2, hs, hi =>
  cases st with
  | nil => cases hs
  | cons x st =>
   obtain rfl := Option.some.inj (show some (So.go ⟨a, x :: st, (nm, x) :: se⟩) = some out from hs)
   obtain ⟨hm2, hl, hx⟩ := hm.pop
   refine (step_store B mb mp v w0 X n nm op p tg x st a se s h hl hx hnm (by omega)).mono ?_
   rintro e w' ⟨rfl, hr⟩
   exact ⟨rfl, hr, ⟨hm.st, hm.h, hse⟩, Nat.le_refl _⟩
 | 3, hs, hi =>
  cases st with
  | nil => cases hs
  | cons x st =>
   have hs : putR (oneR op x se) ⟨a, x :: st, se⟩ st = some out := hs
   obtain ⟨hm2, hl, hx⟩ := hm.pop
   unfold oneR at hs
   cases hy : resO op 0 x with
   | none => rw [hy] at hs; cases hs
   | some y =>
    rw [hy] at hs
    obtain rfl := Option.some.inj (show some (So.go ⟨a, y :: st, se⟩) = some out from hs)
    refine (step_one B mb mp v w0 X n nm op p tg x y st a se s h hl hy).mono ?_
    rintro e w' ⟨rfl, hr⟩
    exact ⟨rfl, hr, hm2.push (res_fit hy) hl, Nat.le_refl _⟩
 | 4, hs, hi =>
  match st, hs, hm, h with
  | [], hs, _, _ => cases hs
  | [_], hs, _, _ => cases hs
  | r :: x :: st, hs, hm, h =>
   have hs : putR (twoR op p x r se) ⟨a, r :: x :: st, se⟩ st = some out := hs
   obtain ⟨hm2, hl, hr⟩ := hm.pop
   obtain ⟨hm3, hl3, hx⟩ := hm2.pop
   unfold twoR at hs
   by_cases c : r = 0 ∧ (op = sDiv ∨ op = sMod)
   ·rw [if_pos c] at hs
    obtain rfl := Option.some.inj (show some (So.bad 12 p) = some out from hs)
    obtain ⟨rfl, c⟩ := c
    rcases c with c | c
    ·refine (step_div0 B mb mp v w0 X n nm op p tg x st sn a se s h hl hsn c).mono ?_
     rintro e w' ⟨pv, rfl, her, hb⟩
     exact ⟨pv, rfl, her, hb⟩
    ·refine (step_mod0 B mb mp v w0 X n nm op p tg x st sn a se s h hl hsn c).mono ?_
     rintro e w' ⟨pv, rfl, her, hb⟩
     exact ⟨pv, rfl, her, hb⟩
   ·rw [if_neg c] at hs
    cases hy : resO op x r with
    | none => rw [hy] at hs; cases hs
    | some y =>
     rw [hy] at hs
     obtain rfl := Option.some.inj (show some (So.go ⟨a, y :: st, se⟩) = some out from hs)
     obtain ⟨o1, o2⟩ := res_ops hy
     by_cases h0 : r = 0
     ·refine (step_two0 B mb mp v w0 X n nm op p tg x r y st a se s h hl hy o1 o2 h0).mono ?_
      rintro e w' ⟨rfl, hr⟩
      exact ⟨rfl, hr, hm3.push (res_fit hy) hl3, Nat.le_refl _⟩
     ·refine (step_two1 B mb mp v w0 X n nm op p tg x r y st a se s h hl hy o1 o2 h0).mono ?_
      rintro e w' ⟨rfl, hr⟩
      exact ⟨rfl, hr, hm3.push (res_fit hy) hl3, Nat.le_refl _⟩
 | 5, hs, hi =>
  cases st with
  | nil =>
   have hs : (if a ≤ tg then (none : Option So) else none) = some out := hs
   split at hs <;> cases hs
  | cons x st =>
   have hs : (if a ≤ tg then some (So.go ⟨if x = 0 then tg else a, st, se⟩) else none) = some out := hs
   obtain ⟨hm2, hl, hx⟩ := hm.pop
   by_cases ht : a ≤ tg
   ·rw [if_pos ht] at hs
    obtain rfl := Option.some.inj hs
    by_cases h0 : x = 0
    ·refine (step_ifyes B mb mp v w0 X n nm op p tg x st a se s h h0 hl).mono ?_
     rintro e w' ⟨rfl, hr⟩
     rw [if_pos h0]
     exact ⟨rfl, hr, hm2.to ht, ht⟩
    ·refine (step_ifno B mb mp v w0 X n nm op p tg x st a se s h h0 hl).mono ?_
     rintro e w' ⟨rfl, hr⟩
     rw [if_neg h0]
     exact ⟨rfl, hr, hm2, Nat.le_refl _⟩
   ·rw [if_neg ht] at hs; cases hs
 | 6, hs, hi =>
  have hs : (if a ≤ tg then some (So.go ⟨tg, st, se⟩) else none) = some out := hs
  by_cases ht : a ≤ tg
  ·rw [if_pos ht] at hs
   obtain rfl := Option.some.inj hs
   refine (step_jump B mb mp v w0 X n nm op p tg st a se s h).mono ?_
   rintro e w' ⟨rfl, hr⟩
   exact ⟨rfl, hr, hm.to ht, ht⟩
  ·rw [if_neg ht] at hs; cases hs
 | k + 7, hs, hi => cases hs
def FinQ (B mb mp : Nat) (v : Option Addr) (w0 : World) (sn : Nat → Addr) (len : Nat) : So → Ending → World → Prop
 | .go m', e, w' => e = .returned .nilIface ∧ (∃ s, RunAt B mb mp v w0 m' s w') ∧ MsOk m' ∧ m'.a ≤ len
 | .bad c p, e, w' => ∃ pv, e = .returned (.iface 96 pv) ∧ ErrAt w' sn c p (.iface 96 pv) ∧ Below B w0 w'
theorem Ins.all (i : Ins) : i.cells.toArray.all (·.oneCell') = true := by simp [Ins.cells, Value.oneCell']
theorem Ins.size (i : Ins) : (Tryz.prog.info? 157).map (·.size) = some i.cells.toArray.size := by show _ = some 6; kernel_rfl
theorem ins_info : (Tryz.prog.info? 157).map (·.size) = some 6 := by kernel_rfl
structure LoopAt (B mb mp : Nat) (v : Option Addr) (w0 : World) (NV : ByteArray → Int × Nat) (code : List Ins) (f : So) (r : Nat) (m : Ms) (s : Nat) (X : World) : Prop where
 ru : runs NV code r m = some f
 at_ : RunAt B mb mp v w0 m s X
 ok : MsOk m
 le : s ≤ m.a
set_option maxRecDepth 100000 in
set_option maxHeartbeats 8000000 in
theorem run_any (B mb mp : Nat) (v : Option Addr) (w0 W : World) (val : ByteArray → ByteArray) (NV : ByteArray → Int × Nat) (sn : Nat → Addr) (hE : EnvC B v w0 val NV) (hsn : ∀ Y, Below B w0 Y → Er Y sn)
  (code : List Ins) (cv : Value) (hcv : ∃ g cap cur, cv = .slice (some ⟨g, 0, none⟩) code.length cap ∧ code.length ≤ cap ∧ g < B ∧ w0.heap[g]? = some (.cells cur 157 (0, 0)) ∧ ∀ (k : Nat) (i : Ins), code[k]? = some i → ∀ j u, i.cells[j]? = some u → cur[k * 6 + j]? = some u)
  (hok : ∀ i ∈ code, InsOk i) (hlen : code.length ≤ 900000) (r : Nat) (m : Ms) (f : So) (s : Nat) (h : LoopAt B mb mp v w0 NV code f r m s W) :
  Calls Tryz.prog 64 #[.pointer (some ⟨mb, 0, none⟩), cv] W fun e w' => FinQ B mb mp v w0 sn code.length f e w' := by
 obtain ⟨g, cap, cur, rfl, hcap, hgB, hg, hat⟩ := hcv
 have HG := Lib.hid hg
 have HGB := Lib.hid hgB
 have HAT := Lib.hid hat
 have HOK := Lib.hid hok
 have HLEN := Lib.hid hlen
 have HST : Hid (∀ (i : Ins) (m : Ms) (out : So) (s : Nat) (X : World), stp NV i m = some out → InsOk i → MsOk m → m.se.length + 1 ≤ m.a → m.a ≤ 1000000 → RunAt B mb mp v w0 m s X → Calls Tryz.prog 99 #[.pointer (some ⟨mb, 0, none⟩), .agg i.cells.toArray] X fun e w' => StepQ B mb mp v w0 sn s m.a out e w') := Lib.hid (fun i m out s X h1 h2 h3 h4 h5 h6 => step_any B mb mp v w0 X val NV sn hE hsn i m out s h1 h2 h3 h4 h5 h6)
 have H0 := Lib.hid h
 obtain ⟨d0, _, _, _, _, _, hml⟩ := h.at_.ma.facts
 clear hg hgB hat hok hE hsn h
 go_enter Tryz.func64, Tryz.ntmps64
 go_wp2_with fail
 go_loopg [6] r (fun gr _ wr => ∃ m s, Aside (LoopAt B mb mp v w0 NV code f gr m s wr))
 case atStart => exact ⟨m, s, H0.out⟩
 case round =>
  obtain ⟨m1, s1, A1⟩ := hrel
  have HL := Lib.hid A1.out
  clear A1
  have hru := HL.out.ru
  have hsz := HL.out.at_.size
  obtain ⟨d0, f0, d1, f1, _, _, hml⟩ := HL.out.at_.ma.facts
  cases gk with
  | zero =>
   by_cases hae : m1.a = code.length
   ·have hf : f = .go m1 := by
     simp only [runs] at hru
     rw [if_pos hae] at hru
     exact (Option.some.inj hru).symm
    have HF := Lib.hid hf
    have hlt : ¬ ((m1.a : Int) < (code.length : Int)) := by omega
    have HAE := Lib.hid hae
    clear hru hf hae
    go_wp2_with fail
    go_ret
    rw [HF.out]
    exact ⟨rfl, ⟨s1, HL.out.at_⟩, HL.out.ok, Nat.le_of_eq HAE.out⟩
   ·simp only [runs] at hru
    rw [if_neg hae] at hru
    cases hru
  | succ gr =>
   simp only [runs] at hru
   cases hi : code[m1.a]? with
   | none => rw [hi] at hru; cases hru
   | some i =>
    rw [hi] at hru
    have hal : m1.a < code.length := (List.getElem?_eq_some_iff.1 hi).1
    have hmem : i ∈ code := List.mem_of_getElem? hi
    cases hst : stp NV i ⟨m1.a + 1, m1.st, m1.se⟩ with
    | none => simp only [hst] at hru; cases hru
    | some out =>
     simp only [hst] at hru
     have hsle := HL.out.le
     have hgX : wr.heap[g]? = some (.cells cur 157 (0, 0)) := (HL.out.at_.ch.block g HGB.out).trans HG.out
     have hcl := HAT.out m1.a i hi
     have HRU := Lib.hid hru
     have HIN := Lib.hid (HOK.out i hmem)
     have HSTP := Lib.hid hst
     have HCL := Lib.hid hcl
     have hlt : (m1.a : Int) < (code.length : Int) := by omega
     have hla : (m1.a : Int) + 1 ≤ 9223372036854775807 := by have := HLEN.out; omega
     have hls : (s1 : Int) + 1 ≤ 9223372036854775807 := by have := HLEN.out; omega
     obtain ⟨W1, hW1⟩ : ∃ W1, W1 = wr.alloc (.cells #[.int .i64 0, .int .i64 0, .string ⟨#[]⟩, .string ⟨#[]⟩, .int .i64 0, .int .i64 0] 157) := ⟨_, rfl⟩
     obtain ⟨W2, hW2⟩ : ∃ W2, W2 = W1.setRow wr.heap.size i.cells.toArray := ⟨_, rfl⟩
     have h1 : W1.heap[wr.heap.size]? = some (.cells #[.int .i64 0, .int .i64 0, .string ⟨#[]⟩, .string ⟨#[]⟩, .int .i64 0, .int .i64 0] 157 (0, 0)) := by rw [hW1]; exact last_A wr _
     have h2 : W2.heap[wr.heap.size]? = some (.cells i.cells.toArray 157 (0, 0)) := by rw [hW2]; exact setRow_self h1 _
     have hb2 : Below wr.heap.size wr W2 := by rw [hW2]; exact below_setRow (by rw [hW1]; exact (Below.refl _ _).alloc (Nat.le_refl _) _) (Nat.le_refl _) _
     have HR2 := Lib.hid (HL.out.at_.below hsz hb2)
     have HB1 := Lib.hid h1
     have HB2 := Lib.hid h2
     have HW1 := Lib.hid hW1
     have HW2 := Lib.hid hW2
     have HLA := Lib.hid hla
     have HLS := Lib.hid hls
     have HAL := Lib.hid hal
     have HSLE := Lib.hid hsle
     clear hru hst hcl hW1 hW2 h1 h2 hb2 hi hmem hla hls hal hsle
     go_upto_region 3 with (first
      | (refine wpList_load_part rfl 157 _ rfl g (m1.a * 6) rfl 157 cur i.cells (0, 0) _ hgX HCL.out Tryz.underlying157 rfl (by rw [Ins.cells_len]; exact ins_info) ?_)
      | (refine wpList_store_rowTo rfl 157 _ _ rfl rfl wr.heap.size i.cells.toArray rfl rfl 157 #[.int .i64 0, .int .i64 0, .string ⟨#[]⟩, .string ⟨#[]⟩, .int .i64 0, .int .i64 0] (by rw [← HW1.out]; exact HB1.out) i.size rfl i.all ?_))
     rw [← HW1.out, ← HW2.out]
     clear d0 f0 d1 f1 hml hgX
     obtain ⟨d0, f0, d1, f1, _, _, hml⟩ := HR2.out.ma.facts
     have hla := HLA.out
     go_upto_region 4 with fail
     clear hla
     obtain ⟨W3, hW3⟩ : ∃ W3, W3 = W2.setCell ⟨mb, 1027, none⟩ (.int .i64 ((m1.a : Int) + 1)) := ⟨_, rfl⟩
     have HR3 : Hid (RunAt B mb mp v w0 ⟨m1.a + 1, m1.st, m1.se⟩ s1 W3) := Lib.hid (by rw [hW3]; have := HR2.out.place (m1.a + 1); simpa using this)
     have hbx : mb ≠ wr.heap.size := fun e => by have := HL.out.at_.ma.lt; omega
     have HB3 : Hid (W3.heap[wr.heap.size]? = some (.cells i.cells.toArray 157 (0, 0))) := Lib.hid (by rw [hW3]; exact (Below.heap_setCell _ _ _ _ (by simpa using fun e => hbx e.symm)).trans HB2.out)
     rw [← hW3]
     clear hW3 d0 f0 d1 f1 hml
     obtain ⟨d0, f0, d1, f1, _, _, hml⟩ := HR3.out.ma.facts
     have hls := HLS.out
     go_upto_region 5 with fail
     clear hls
     obtain ⟨W4, hW4⟩ : ∃ W4, W4 = W3.setCell ⟨mb, 1028, none⟩ (.int .i64 ((s1 : Int) + 1)) := ⟨_, rfl⟩
     have HR4 : Hid (RunAt B mb mp v w0 ⟨m1.a + 1, m1.st, m1.se⟩ (s1 + 1) W4) := Lib.hid (by rw [hW4]; have := HR3.out.stepped (s1 + 1); simpa using this)
     have HB4 : Hid (W4.heap[wr.heap.size]? = some (.cells i.cells.toArray 157 (0, 0))) := Lib.hid (by rw [hW4]; exact (Below.heap_setCell _ _ _ _ (by simpa using fun e => hbx e.symm)).trans HB3.out)
     rw [← hW4]
     clear hW4 d0 f0 d1 f1 hml
     obtain ⟨c0, c1, c2, c3, c4, c5, hz1⟩ := cells6A (show W4.heap[wr.heap.size]? = some (.cells #[.int .i64 i.k, .int .i64 i.n, .string i.nm, .string i.op, .int .i64 i.p, .int .i64 i.tg] 157 (0, 0)) from HB4.out)
     have hse1 := HL.out.ok.se
     have HSC := Lib.hid (HST.out i ⟨m1.a + 1, m1.st, m1.se⟩ out (s1 + 1) W4 HSTP.out HIN.out ⟨HL.out.ok.st, HL.out.ok.h, Nat.le_succ_of_le hse1⟩ (Nat.succ_le_succ hse1) (by have := HLEN.out; have := HAL.out; show m1.a + 1 ≤ 1000000; omega) HR4.out)
     clear hse1
     go_wp2_with fail
     refine HSC.out.mono ?_
     intro e w5 hq
     clear c0 c1 c2 c3 c4 c5 hz1
     cases out with
     | go m2 =>
      obtain ⟨rfl, hr5, hm5, ha5⟩ := hq
      have HR5 := Lib.hid hr5
      have HM5 := Lib.hid hm5
      have HA5 := Lib.hid ha5
      clear hr5 hm5 ha5
      go_wp2_with fail
      go_roundg gr
      case measure => omega
      case rel => exact ⟨m2, s1 + 1, HRU.out, HR5.out, HM5.out, by have := HA5.out; have h9 := HSLE.out; show s1 + 1 ≤ m2.a; have h8 : m1.a + 1 ≤ m2.a := this; omega⟩
     | bad c p =>
      obtain ⟨pv, rfl, her, hb5⟩ := hq
      have HER := Lib.hid her
      have HB5 := Lib.hid hb5
      have hf : f = .bad c p := (Option.some.inj HRU.out).symm
      have HF := Lib.hid hf
      clear her hb5 hf
      go_wp2_with fail
      go_ret
      rw [HF.out]
      exact ⟨pv, rfl, HER.out, HB5.out⟩
end Go.Proofs.YtkakhfkkeoceiaaGreatDoor
