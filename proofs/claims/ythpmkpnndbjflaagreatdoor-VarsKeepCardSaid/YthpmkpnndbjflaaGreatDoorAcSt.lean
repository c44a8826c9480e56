/- A run's state in memory: the numbers on the stack, what is set. -/
import Derived.Test.YthpmkpnndbjflaaGreatDoorAcM
import Derived.Test.YthpmkpnndbjflaaGreatDoorKMc
import Derived.Maps.OwnSet
namespace Go.Proofs.YthpmkpnndbjflaaGreatDoor
open Go.RowKit Go.WideMaps Go.Maps

/-- The numbers on the stack by their places, the last one on top. -/
def stF : List Int → Nat → Int
  | [], _ => 0
  | x :: l, i => if i = l.length then x else stF l i
def MachL (w : World) (b : Nat) (v mp : Value) (l : List Int) (a s : Nat) : Prop := ∃ st, Mach w b v mp st l.length a s ∧ ∀ i, i < l.length → st i = stF l i
theorem MachL.push {w : World} {b : Nat} {v mp : Value} {l : List Int} {a s : Nat} {st : Nat → Int} {n : Int} (h : Mach w b v mp (fun i => if i = l.length then n else st i) (l.length + 1) a s) (hs : ∀ i, i < l.length → st i = stF l i) : MachL w b v mp (n :: l) a s := by
  refine ⟨_, h, fun i hi => ?_⟩
  show (if i = l.length then n else st i) = if i = l.length then n else stF l i
  by_cases e : i = l.length
  · rw [if_pos e, if_pos e]
  · rw [if_neg e, if_neg e]
    exact hs i (by simp at hi; omega)
theorem stF_top (x : Int) (l : List Int) : stF (x :: l) l.length = x := if_pos rfl
theorem MachL.pop {w : World} {b : Nat} {v mp : Value} {x : Int} {l : List Int} {a s : Nat} {st : Nat → Int} (h : Mach w b v mp st l.length a s) (hs : ∀ i, i < (x :: l).length → st i = stF (x :: l) i) : MachL w b v mp l a s := by
  refine ⟨_, h, fun i hi => ?_⟩
  have h1 : st i = if i = l.length then x else stF l i := hs i (by simp; omega)
  rw [if_neg (by omega)] at h1
  exact h1

theorem lawS : Keyed Tryz.prog 9 := string_keyed Tryz.underlying9
theorem zeroI64 (w : World) : (zeroValue 2).run Tryz.prog w = .ok (.int .i64 0) w := by kernel_rfl
/-- What a name reads as, as a key. -/
def KL (s : ByteArray) : Lit := .string s.data.toList
theorem KL.inj {s t : ByteArray} (h : KL s = KL t) : s = t := by
  unfold KL at h
  injection h with h
  cases s with
  | mk a => cases t with
    | mk b => simp at h; rw [h]
theorem KL.key {s : ByteArray} (h : s.size ≤ maxLen) : keyOf Tryz.prog 9 (.string s) = some (KL s) := keyOf_string_mk Tryz.underlying9 h
/-- The map reads as what is set. -/
def Rep (D : DataW Unit) (e : Asc) : Prop := ∀ s : ByteArray, Maps.has D (KL s) = (look e s).isSome ∧ ∀ v, look e s = some v → ∀ z, D.atKey (KL s) z = .lit (.int .i64 v)
theorem Rep.nil : Rep (.map []) [] := fun _ => ⟨rfl, fun _ h => by cases h⟩
theorem Rep.put {D : DataW Unit} {e : Asc} (h : Rep D e) (hD : IsMap D) (s : ByteArray) (v : Int) : Rep (D.put (KL s) (.lit (.int .i64 v))) ((s, v) :: e) := by
  intro t
  have hk : WideAt.IsKeyLit (KL s) := trivial
  by_cases hst : s = t
  · subst hst
    have e1 : look ((s, v) :: e) s = some v := by simp [look]
    rw [e1]
    exact ⟨has_put_same hD hk _, fun u hu z => by rw [atKey_put_same hD hk]; cases hu; rfl⟩
  · have hne : KL t ≠ KL s := fun h => hst (KL.inj h).symm
    have e1 : look ((s, v) :: e) t = look e t := by simp [look, hst]
    rw [e1, has_put_other hne]
    exact ⟨(h t).1, fun u hu z => by rw [atKey_put_other hne]; exact (h t).2 u hu z⟩
/-- What the run has set lies in the map b. -/
def SetAt (w : World) (b : Nat) (e : Asc) : Prop := ∃ D, w.ownsMap Tryz.prog 9 (plainElem (H := Unit) Tryz.prog 2) b e.length D ∧ Rep D e
theorem SetAt.lt {w : World} {b : Nat} {e : Asc} (h : SetAt w b e) : b < w.heap.size := by
  obtain ⟨D, h, _⟩ := h
  exact h.lt
theorem SetAt.same {w w' : World} {b : Nat} {e : Asc} (h : SetAt w b e) (hb : w'.heap[b]? = w.heap[b]?) : SetAt w' b e := by
  obtain ⟨D, ⟨es, clock, h1, h2⟩, hr⟩ := h
  exact ⟨D, ⟨es, clock, hb.trans h1, h2⟩, hr⟩
theorem SetAt.below {w w' : World} {b : Nat} {e : Asc} (h : SetAt w b e) (hb : Below w.heap.size w w') : SetAt w' b e := h.same (hb.block b h.lt)
theorem SetAt.made (w : World) : SetAt (w.alloc (.map #[] 0)) w.heap.size [] := ⟨_, World.ownsMap_made w _ _ _, Rep.nil⟩

section
variable {H : Type} {P : Program}
/-- m[k] = v as an operation. -/
theorem wp_mapUpdate_own (w : World) {o : Oper} {a : Act} {K : Act → World → Prop} {Q : Exit → Act → World → Prop} (m x v : Operand) (t : TypeId) (hop : o.op = Op.mapUpdate t m x v)
    (k e : TypeId) (Kd : Keyed P k) (ht : P.underlying t = some (.map k e)) (R : Value → Option (DataW H × List MemPlace)) (b n : Nat) (D : DataW H)
    (hm : a.eval m = .map (some b)) (hown : w.ownsMap P k R b n D) (hn : n < maxLen) (key val : Value) (kl : Lit) (hx : a.eval x = key) (hv : a.eval v = val) (hkey : keyOf P k key = some kl)
    (d : DataW H) (ps : List MemPlace) (hval : R val = some (d, ps))
    (hK : ∀ w', w'.ownsMap P k R b (n + 1) (D.put kl d) → w.grownBy w' (some b) → K (a.put o.dst undef) w') : o.wp P a w K Q := by
  obtain ⟨w', hrun, r1, r2⟩ := hown.update Kd ht hn hkey hval
  unfold Oper.wp
  simp [execOp, hop, hm, hx, hv, hrun, Result.andThen]
  exact hK w' r1 r2
end

/-- A run of instructions on its way: the machine, what is set; all below B as it was. -/
structure RunAt (B mb mp : Nat) (v : Option Addr) (w0 : World) (m : Ms) (s : Nat) (X : World) : Prop where
  ma : MachL X mb (.pointer v) (.map (some mp)) m.st m.a s
  se : SetAt X mp m.se
  ch : Below B w0 X
  lo : B ≤ mb ∧ B ≤ mp ∧ mb ≠ mp
end Go.Proofs.YthpmkpnndbjflaaGreatDoor
