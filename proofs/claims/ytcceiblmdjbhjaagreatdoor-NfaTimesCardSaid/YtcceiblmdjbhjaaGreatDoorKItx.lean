/- KItx: several texts in one (kmerge.py). -/
import Derived.Test.YtcceiblmdjbhjaaGreatDoorSeErr
import Derived.Test.YtcceiblmdjbhjaaGreatDoorKMk
import Derived.Test.YtcceiblmdjbhjaaGreatDoorKRdr
/- The reader's item, every way (gen_itx.py). -/
namespace Go.Proofs.YtcceiblmdjbhjaaGreatDoor
open Go.RowKit

/-- What an item is: wrong at a place; a class; a byte; and the place behind it. -/
inductive IR where
  | bad (pos : Nat)
  | cls (p : Nat → Bool) (next : Nat)
  | byt (c : Int) (next : Nat)
/-- The item at place k, in the language of patterns or not; cf: the classes by their names. -/
def itemR (cf : ByteArray → (Nat → Bool) × Bool) (s : ByteArray) (glob : Bool) (k : Nat) : IR :=
  if atB s k = 91 ∧ atB s (k + 1) = 58 then
    match cnE s (s.size - (k + 2)) (k + 2) with
    | none => .bad k
    | some e => if (cf (s.extract (k + 2) e)).2 = true then .cls (cf (s.extract (k + 2) e)).1 (e + 2) else .bad k
  else if atB s k = 91 ∧ (atB s (k + 1) = 46 ∨ atB s (k + 1) = 61) then .bad k
  else if glob = true ∧ atB s k = 92 then (if k + 1 < s.size then .byt (atB s (k + 1)) (k + 2) else .bad (k + 1))
  else if k < s.size then .byt (atB s k) (k + 1) else .bad k
end Go.Proofs.YtcceiblmdjbhjaaGreatDoor
/- A part of a bracket that is wrong (gen_pax.py). -/
namespace Go.Proofs.YtcceiblmdjbhjaaGreatDoor
open Go.RowKit

theorem ErrS.iface {w : World} {B : Nat} {e : Nat → Addr} {lg : Int} {c : Nat} {p : Int} {v : Value} (h : ErrS w B e lg c p v) : ∃ k, v = .iface 76 (.pointer (some ⟨k, 0, none⟩)) := by
  obtain ⟨k, j, rfl, _⟩ := h
  exact ⟨k, rfl⟩

/-- What a part of a bracket is. -/
inductive PR where
  | bad (code pos : Nat)
  | ok (p : Nat → Bool) (next : Nat)
def partR (cf : ByteArray → (Nat → Bool) × Bool) (s : ByteArray) (glob : Bool) (k : Nat) : PR :=
  match itemR cf s glob k with
  | .bad pos => .bad 8 pos
  | .cls p nx => .ok p nx
  | .byt c nx =>
    if atB s nx = 45 ∧ ¬ atB s (nx + 1) = 93 then
      match itemR cf s glob (nx + 1) with
      | .bad pos => .bad 8 pos
      | .cls _ _ => .bad 8 (nx + 1)
      | .byt d nx2 => if d < c then .bad 7 k else .ok (rng c.toNat d.toNat) nx2
    else .ok (rng c.toNat c.toNat) nx
theorem atB_byte (s : ByteArray) (k : Nat) : 0 ≤ atB s k ∧ atB s k ≤ 255 := bys_byt s k
theorem itemR_byte {cf : ByteArray → (Nat → Bool) × Bool} {s : ByteArray} {g : Bool} {k : Nat} {c : Int} {nx : Nat} (h : itemR cf s g k = .byt c nx) : (0 ≤ c ∧ c ≤ 255) ∧ nx ≤ s.size ∧ k < nx := by
  unfold itemR at h
  split at h
  · split at h
    · cases h
    · split at h <;> cases h
  · split at h
    · cases h
    · split at h
      · split at h
        · cases h; exact ⟨atB_byte s _, by omega, by omega⟩
        · cases h
      · split at h
        · cases h; exact ⟨atB_byte s _, by omega, by omega⟩
        · cases h
end Go.Proofs.YtcceiblmdjbhjaaGreatDoor
/- The reader's bracket: any parts, turned or not (gen_brx.py). -/
namespace Go.Proofs.YtcceiblmdjbhjaaGreatDoor
open Go.RowKit

/-- What a bracket is. -/
inductive BR where
  | bad (code pos : Nat)
  | ok (p : Nat → Bool) (next : Nat)
def brkL (cf : ByteArray → (Nat → Bool) × Bool) (s : ByteArray) (glob : Bool) : Nat → Nat → Bool → (Nat → Bool) → BR
  | 0, _, _, _ => .bad 0 0
  | n + 1, k, first, p =>
    if first = false ∧ atB s k = 93 then .ok p (k + 1) else
      match partR cf s glob k with
      | .bad c pos => .bad c pos
      | .ok q nx => brkL cf s glob n nx false (orP p q)
def brkT (t : Bool) : BR → BR
  | .bad c pos => .bad c pos
  | .ok p nx => .ok (if t then notP p else p) nx
def brkR (cf : ByteArray → (Nat → Bool) × Bool) (s : ByteArray) (glob : Bool) (k : Nat) : BR :=
  if atB s k = 94 ∨ (glob = true ∧ atB s k = 33) then brkT true (brkL cf s glob (s.size + 1 - (k + 1)) (k + 1) true noP)
  else brkT false (brkL cf s glob (s.size + 1 - k) k true noP)
theorem itemR_next {cf : ByteArray → (Nat → Bool) × Bool} {s : ByteArray} {g : Bool} {k : Nat} {p : Nat → Bool} {nx : Nat} (h : itemR cf s g k = .cls p nx) : nx ≤ s.size ∧ k < nx := by
  unfold itemR at h
  split at h
  · rename_i hc
    split at h
    · cases h
    · rename_i y hy
      split at h
      · cases h
        have key : ∀ n j, cnE s n j = some y → j ≤ y ∧ y + 2 ≤ s.size := by
          intro n
          induction n with
          | zero => intro j h; cases h
          | succ n ih =>
            intro j h
            unfold cnE at h
            split at h
            · rename_i hh
              have e := Option.some.inj h
              have := atB_in (s := s) (k := j + 1) (by rw [hh.2]; decide)
              omega
            · have := ih _ h; omega
        have := key _ _ hy
        omega
      · cases h
  · split at h
    · cases h
    · split at h
      · split at h <;> cases h
      · split at h <;> cases h
theorem partR_next {cf : ByteArray → (Nat → Bool) × Bool} {s : ByteArray} {g : Bool} {k : Nat} {p : Nat → Bool} {nx : Nat} (h : partR cf s g k = .ok p nx) : nx ≤ s.size ∧ k < nx := by
  unfold partR at h
  cases h1 : itemR cf s g k with
  | bad pos => rw [h1] at h; cases h
  | cls q n1 => rw [h1] at h; cases h; exact itemR_next h1
  | byt c n1 =>
    rw [h1] at h
    have b1 := (itemR_byte h1).2
    simp only at h
    split at h
    · cases h2 : itemR cf s g (n1 + 1) with
      | bad pos => rw [h2] at h; cases h
      | cls q n2 => rw [h2] at h; cases h
      | byt d n2 =>
        rw [h2] at h
        have b2 := (itemR_byte h2).2
        simp only at h
        split at h
        · cases h
        · cases h; omega
    · cases h; exact b1
end Go.Proofs.YtcceiblmdjbhjaaGreatDoor
/- Bracket over any bytes, from any place, in any language (gen_bkt.py). -/
namespace Go.Proofs.YtcceiblmdjbhjaaGreatDoor
open Go.RowKit

/-- What Bracket tells, its arguments being right. -/
def BkPost (r : BR) (e : Nat → Addr) (k : Nat) (lg : Int) (w : World) (x : Ending) (w' : World) : Prop :=
  match r with
  | .ok p nx => x = .returned (.tuple #[SV p, .int .i64 (k + nx : Nat), .nilIface]) ∧ Below w.heap.size w w'
  | .bad c pos => ∃ v, x = .returned (.tuple #[SV noP, .int .i64 0, v]) ∧ ErrS w' w.heap.size e lg c (k + pos : Nat) v ∧ Below w.heap.size w w'
theorem lt_blkB {w : World} {g : Nat} {o : Obj} (h : w.heap[g]? = some o) : g < w.heap.size := by
  rcases Nat.lt_or_ge g w.heap.size with h' | h'
  · exact h'
  · rw [Array.getElem?_eq_none h'] at h; cases h
end Go.Proofs.YtcceiblmdjbhjaaGreatDoor
