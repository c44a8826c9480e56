/- errors.as and errors.As, walked over chains of fault.At and fault.In, at a target of type **placed or **spoken. -/
import Derived.Test.YtndgomocehfmgaaDoorFaAs
namespace Go.Proofs.YtndgomocehfmgaaDoor
open Go.RowKit Go.Extern.Stop Go.Stop Go.Extern

/-- The loop's relation: a rest of the chain in which the search goes on. -/
def AsRel (b : Bool) (w W : World) (r : Value) (f : Option Int) (k : Nat) (v : Value) (wr : World) : Prop := wr = W ∧ ∃ l, l.length = k ∧ Chn w l v r ∧ firstOf b l = f

/-- What a hit leaves. -/
def AsHit (ty : TypeId) (n : Int) (t : Addr) (wc w : World) (e : Ending) (w' : World) : Prop :=
  e = .returned (.bool true) ∧ ∃ k x w1, wc.heap[k]? = some (.cells #[x, .int .i64 n] ty) ∧ Below w.heap.size w w1 ∧ w' = w1.setCell t (.pointer (some ⟨k, 0, none⟩))

def AsMiss (w : World) (e : Ending) (w' : World) : Prop := e = .returned (.bool false) ∧ Below w.heap.size w w'

theorem lt_of_cell {w : World} {p : Addr} {v : Value} (h : w.cell? p = some v) : p.block < w.heap.size := by
  rcases Nat.lt_or_ge p.block w.heap.size with h1 | h1
  · exact h1
  · simp [World.cell?, Array.getElem?_eq_none h1] at h
theorem lt_of_block {w : World} {k : Nat} {o : Obj} (h : w.heap[k]? = some o) : k < w.heap.size := by
  rcases Nat.lt_or_ge k w.heap.size with h1 | h1
  · exact h1
  · rw [Array.getElem?_eq_none h1] at h; cases h
theorem Chn.alloc {w : World} {l : List (Bool × Int)} {v r : Value} (h : Chn w l v r) (o : Obj) : Chn (w.alloc o) l v r :=
  h.below ((Below.refl _ _).alloc (Nat.le_refl _) o)
theorem block_alloc {w : World} {k : Nat} {o : Obj} (h : w.heap[k]? = some o) (o' : Obj) : (w.alloc o').heap[k]? = some o := by
  rw [Below.heap_alloc _ _ _ (lt_of_block h)]; exact h

set_option maxRecDepth 100000 in
set_option maxHeartbeats 4000000 in
theorem as_walkP (l : List (Bool × Int)) (v : Value) (a t vb : Addr) (old : Value) (wc w : World) (hbc : Below wc.heap.size wc w) (hc : Chn wc l v (bot a))
    (hvb : w.cell? vb = some (.pointer (some t))) (ht : w.cell? t = some old) (hf : w.frozen? t = false) :
    Calls Tryd.prog 88 #[v, .iface 117 (.pointer (some t)), .agg #[.pointer (some ⟨29, 117, none⟩), .pointer (some vb), .int .u64 150], .iface 151 (.agg #[.pointer (some ⟨29, 82, none⟩)])] w
      fun e w' => (∀ n, firstOf false l = some n → AsHit 86 n t wc w e w') ∧ (firstOf false l = none → AsMiss w e w') := by
  have hx23 := @run_callFunc_extern Tryd.prog 100 _ ReflectliteType.typeOf Tryd.func100 (by kernel_rfl) (by kernel_rfl) (by kernel_rfl) (by kernel_rfl)
  have hxA := @run_callFunc_extern Tryd.prog 154 _ (ReflectliteType.relation "AssignableTo" ReflectliteType.assignableTo) Tryd.func154 (by kernel_rfl) (by kernel_rfl) (by kernel_rfl) (by kernel_rfl)
  have hxE := @run_callFunc_extern Tryd.prog 102 _ (ReflectliteValue.method (ReflectliteValue.valueError "reflectlite.Value.Elem" 0) ReflectliteValue.elem) Tryd.func102 (by kernel_rfl) (by kernel_rfl) (by kernel_rfl) (by kernel_rfl)
  have hxV := @run_callFunc_extern Tryd.prog 85 _ (fun args => ReflectliteValue.unpack (args.getD 0 (.tuple #[]))) Tryd.func85 (by kernel_rfl) (by kernel_rfl) (by kernel_rfl) (by kernel_rfl)
  have hxS := @run_callFunc_extern Tryd.prog 103 _ ReflectliteValue.set Tryd.func103 (by kernel_rfl) (by kernel_rfl) (by kernel_rfl) (by kernel_rfl)
  have mA := Tryd.methodAssignableTo
  have tP := Tryd.typeOfP
  have tS := Tryd.typeOfS
  have tE := Tryd.typeOfE
  have aP := Tryd.assignablePP
  have aS := Tryd.assignableSP
  have aE := Tryd.assignableEP
  have nP := Tryd.noAsP
  have nS := Tryd.noAsS
  have nE := Tryd.noAsE
  have uP := Tryd.hasUnwrapP
  have uS := Tryd.hasUnwrapS
  have uE := Tryd.noUnwrapE
  have vE := Tryd.noUnwrapsE
  have mP := Tryd.methodUnwrapP
  have mS := Tryd.methodUnwrapS
  have v1 := Tryd.valueOf1P
  have hvl := lt_of_cell hvb
  have htl := lt_of_cell ht
  have hvb0 : (w.alloc (.cells #[.pointer (some ⟨29, 117, none⟩), .pointer (some vb), .int .u64 150] 132)).cell? vb = some (.pointer (some t)) := by rw [World.cell?_alloc_lt _ _ _ hvl]; exact hvb
  have ht0 : (w.alloc (.cells #[.pointer (some ⟨29, 117, none⟩), .pointer (some vb), .int .u64 150] 132)).cell? t = some old := by rw [World.cell?_alloc_lt _ _ _ htl]; exact ht
  have hf0 : (w.alloc (.cells #[.pointer (some ⟨29, 117, none⟩), .pointer (some vb), .int .u64 150] 132)).frozen? t = false := by rw [World.frozen?_alloc_old _ _ _ (Nat.ne_of_lt htl)]; exact hf
  have el := Tryd.elemV2P vb t (w.alloc (.cells #[.pointer (some ⟨29, 117, none⟩), .pointer (some vb), .int .u64 150] 132)) hvb0
  have st := fun e => Tryd.set1P t ⟨w.heap.size + 1, 0, none⟩ e old ((w.alloc (.cells #[.pointer (some ⟨29, 117, none⟩), .pointer (some vb), .int .u64 150] 132)).alloc (.cells #[.pointer (some e)] 82))
    (by rw [World.cell?_alloc_at _ _ _ _ (by simp)]; rfl)
    (by rw [World.cell?_alloc_lt _ _ t (by simp; omega)]; exact ht0)
    (by rw [World.frozen?_alloc_old _ _ t (by simp; omega)]; exact hf0)
  have HC := Lib.hid hc
  have HBC := Lib.hid hbc
  clear hvb0 ht0 hf0 hvb ht hf hc hvl htl hbc
  unfold bot at *
  go_enter Tryd.func88, Tryd.ntmps88
  go_wp2
  go_loopg [0] l.length (fun k v wr => AsRel false wc (w.alloc (.cells #[.pointer (some ⟨29, 117, none⟩), .pointer (some vb), .int .u64 150] 132)) (.iface 198 (.pointer (some a))) (firstOf false l) k v wr)
  case atStart => exact ⟨rfl, l, rfl, HC.out, rfl⟩
  case round =>
    obtain ⟨rfl, l', hl, hc', hfo⟩ := hrel
    cases l' with
    | nil =>
      cases hc'
      have HF := Lib.hid hfo
      clear hfo hl HC
      go_wp2
      go_ret
      exact ⟨fun n hn => absurd (HF.out.trans hn) (by simp [firstOf]), fun _ => ⟨rfl, (Below.refl _ _).alloc (Nat.le_refl _) _⟩⟩
    | cons p l'' =>
      obtain ⟨pb, n⟩ := p
      obtain ⟨k, x, rfl, hk, hx⟩ := hc'
      obtain ⟨xt, xv, rfl⟩ := hx.held ⟨_, _, rfl⟩
      have hcell : (w.alloc (.cells #[.pointer (some ⟨29, 117, none⟩), .pointer (some vb), .int .u64 150] 132)).cell? ⟨k, 0, none⟩ = some (.iface xt xv) := by
        rw [World.cell?_alloc_lt _ _ _ (lt_of_block (below_blocks HBC.out _ _ hk))]; simp [World.cell?, below_blocks HBC.out _ _ hk]
      have HX := Lib.hid hx
      have HL := Lib.hid hl
      have HK := Lib.hid hk
      have HF := Lib.hid hfo
      clear hx hl hk hfo HC
      cases pb
      · simp only [cond_false] at *
        go_wp2
        go_ret
        exact ⟨fun m hm => ⟨rfl, k, _, _, (by have h1 := HF.out; rw [hm] at h1; simp [firstOf] at h1; subst h1; exact HK.out), ((Below.refl _ _).alloc (Nat.le_refl _) _).alloc (by simp) _, rfl⟩, fun hn => absurd (HF.out.trans hn) (by simp [firstOf])⟩
      · simp only [cond_true] at *
        go_wp2_with fail
        refine (unwrapS k _ _ hcell).mono ?_
        rintro e w' ⟨rfl, rfl⟩
        go_wp2
        go_roundg l''.length
        case measure => have := HL.out; simp only [List.length_cons] at this; omega
        case rel => exact ⟨rfl, l'', rfl, HX.out, by have h1 := HF.out; simpa [firstOf] using h1⟩
set_option maxRecDepth 100000 in
set_option maxHeartbeats 4000000 in
theorem as_walkS (l : List (Bool × Int)) (v : Value) (a t vb : Addr) (old : Value) (wc w : World) (hbc : Below wc.heap.size wc w) (hc : Chn wc l v (bot a))
    (hvb : w.cell? vb = some (.pointer (some t))) (ht : w.cell? t = some old) (hf : w.frozen? t = false) :
    Calls Tryd.prog 88 #[v, .iface 118 (.pointer (some t)), .agg #[.pointer (some ⟨29, 118, none⟩), .pointer (some vb), .int .u64 150], .iface 151 (.agg #[.pointer (some ⟨29, 87, none⟩)])] w
      fun e w' => (∀ n, firstOf true l = some n → AsHit 91 n t wc w e w') ∧ (firstOf true l = none → AsMiss w e w') := by
  have hx23 := @run_callFunc_extern Tryd.prog 100 _ ReflectliteType.typeOf Tryd.func100 (by kernel_rfl) (by kernel_rfl) (by kernel_rfl) (by kernel_rfl)
  have hxA := @run_callFunc_extern Tryd.prog 154 _ (ReflectliteType.relation "AssignableTo" ReflectliteType.assignableTo) Tryd.func154 (by kernel_rfl) (by kernel_rfl) (by kernel_rfl) (by kernel_rfl)
  have hxE := @run_callFunc_extern Tryd.prog 102 _ (ReflectliteValue.method (ReflectliteValue.valueError "reflectlite.Value.Elem" 0) ReflectliteValue.elem) Tryd.func102 (by kernel_rfl) (by kernel_rfl) (by kernel_rfl) (by kernel_rfl)
  have hxV := @run_callFunc_extern Tryd.prog 85 _ (fun args => ReflectliteValue.unpack (args.getD 0 (.tuple #[]))) Tryd.func85 (by kernel_rfl) (by kernel_rfl) (by kernel_rfl) (by kernel_rfl)
  have hxS := @run_callFunc_extern Tryd.prog 103 _ ReflectliteValue.set Tryd.func103 (by kernel_rfl) (by kernel_rfl) (by kernel_rfl) (by kernel_rfl)
  have mA := Tryd.methodAssignableTo
  have tP := Tryd.typeOfP
  have tS := Tryd.typeOfS
  have tE := Tryd.typeOfE
  have aP := Tryd.assignablePS
  have aS := Tryd.assignableSS
  have aE := Tryd.assignableES
  have nP := Tryd.noAsP
  have nS := Tryd.noAsS
  have nE := Tryd.noAsE
  have uP := Tryd.hasUnwrapP
  have uS := Tryd.hasUnwrapS
  have uE := Tryd.noUnwrapE
  have vE := Tryd.noUnwrapsE
  have mP := Tryd.methodUnwrapP
  have mS := Tryd.methodUnwrapS
  have v1 := Tryd.valueOf1S
  have hvl := lt_of_cell hvb
  have htl := lt_of_cell ht
  have hvb0 : (w.alloc (.cells #[.pointer (some ⟨29, 118, none⟩), .pointer (some vb), .int .u64 150] 132)).cell? vb = some (.pointer (some t)) := by rw [World.cell?_alloc_lt _ _ _ hvl]; exact hvb
  have ht0 : (w.alloc (.cells #[.pointer (some ⟨29, 118, none⟩), .pointer (some vb), .int .u64 150] 132)).cell? t = some old := by rw [World.cell?_alloc_lt _ _ _ htl]; exact ht
  have hf0 : (w.alloc (.cells #[.pointer (some ⟨29, 118, none⟩), .pointer (some vb), .int .u64 150] 132)).frozen? t = false := by rw [World.frozen?_alloc_old _ _ _ (Nat.ne_of_lt htl)]; exact hf
  have el := Tryd.elemV2S vb t (w.alloc (.cells #[.pointer (some ⟨29, 118, none⟩), .pointer (some vb), .int .u64 150] 132)) hvb0
  have st := fun e => Tryd.set1S t ⟨w.heap.size + 1, 0, none⟩ e old ((w.alloc (.cells #[.pointer (some ⟨29, 118, none⟩), .pointer (some vb), .int .u64 150] 132)).alloc (.cells #[.pointer (some e)] 87))
    (by rw [World.cell?_alloc_at _ _ _ _ (by simp)]; rfl)
    (by rw [World.cell?_alloc_lt _ _ t (by simp; omega)]; exact ht0)
    (by rw [World.frozen?_alloc_old _ _ t (by simp; omega)]; exact hf0)
  have HC := Lib.hid hc
  have HBC := Lib.hid hbc
  clear hvb0 ht0 hf0 hvb ht hf hc hvl htl hbc
  unfold bot at *
  go_enter Tryd.func88, Tryd.ntmps88
  go_wp2
  go_loopg [0] l.length (fun k v wr => AsRel true wc (w.alloc (.cells #[.pointer (some ⟨29, 118, none⟩), .pointer (some vb), .int .u64 150] 132)) (.iface 198 (.pointer (some a))) (firstOf true l) k v wr)
  case atStart => exact ⟨rfl, l, rfl, HC.out, rfl⟩
  case round =>
    obtain ⟨rfl, l', hl, hc', hfo⟩ := hrel
    cases l' with
    | nil =>
      cases hc'
      have HF := Lib.hid hfo
      clear hfo hl HC
      go_wp2
      go_ret
      exact ⟨fun n hn => absurd (HF.out.trans hn) (by simp [firstOf]), fun _ => ⟨rfl, (Below.refl _ _).alloc (Nat.le_refl _) _⟩⟩
    | cons p l'' =>
      obtain ⟨pb, n⟩ := p
      obtain ⟨k, x, rfl, hk, hx⟩ := hc'
      obtain ⟨xt, xv, rfl⟩ := hx.held ⟨_, _, rfl⟩
      have hcell : (w.alloc (.cells #[.pointer (some ⟨29, 118, none⟩), .pointer (some vb), .int .u64 150] 132)).cell? ⟨k, 0, none⟩ = some (.iface xt xv) := by
        rw [World.cell?_alloc_lt _ _ _ (lt_of_block (below_blocks HBC.out _ _ hk))]; simp [World.cell?, below_blocks HBC.out _ _ hk]
      have HX := Lib.hid hx
      have HL := Lib.hid hl
      have HK := Lib.hid hk
      have HF := Lib.hid hfo
      clear hx hl hk hfo HC
      cases pb
      · simp only [cond_false] at *
        go_wp2_with fail
        refine (unwrapP k _ _ hcell).mono ?_
        rintro e w' ⟨rfl, rfl⟩
        go_wp2
        go_roundg l''.length
        case measure => have := HL.out; simp only [List.length_cons] at this; omega
        case rel => exact ⟨rfl, l'', rfl, HX.out, by have h1 := HF.out; simpa [firstOf] using h1⟩
      · simp only [cond_true] at *
        go_wp2
        go_ret
        exact ⟨fun m hm => ⟨rfl, k, _, _, (by have h1 := HF.out; rw [hm] at h1; simp [firstOf] at h1; subst h1; exact HK.out), ((Below.refl _ _).alloc (Nat.le_refl _) _).alloc (by simp) _, rfl⟩, fun hn => absurd (HF.out.trans hn) (by simp [firstOf])⟩
end Go.Proofs.YtndgomocehfmgaaDoor
