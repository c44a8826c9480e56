/- KPu: several texts in one (kmerge.py). -/
import Derived.Test.YtcceiblmdjbhjaaGreatDoorSeShf
import Derived.Test.YtcceiblmdjbhjaaGreatDoorSeBel
import Derived.Lib.TrailingZeros
import Derived.Test.YtcceiblmdjbhjaaGreatDoorKSet
import Derived.Test.YtcceiblmdjbhjaaGreatDoorKSn
/- The pieces of a pattern, read (pure). -/
namespace Go.Proofs.YtcceiblmdjbhjaaGreatDoor
open Go.RowKit

theorem brkR_gt (cf : ByteArray → (Nat → Bool) × Bool) (s : ByteArray) (g : Bool) {q : Nat → Bool} {m : Nat} (h : brkR cf s g 0 = .ok q m) : 0 < m ∧ m ≤ s.size := by
  unfold brkR at h
  split at h
  · cases hb : brkL cf s g (s.size + 1 - (0 + 1)) (0 + 1) true noP with
    | bad c pos => rw [hb] at h; cases h
    | ok p nx =>
      rw [hb] at h
      simp only [brkT, BR.ok.injEq] at h
      obtain ⟨_, rfl⟩ := h
      have := brkL_gt cf _ _ _ _ _ _ hb
      omega
  · cases hb : brkL cf s g (s.size + 1 - 0) 0 true noP with
    | bad c pos => rw [hb] at h; cases h
    | ok p nx =>
      rw [hb] at h
      simp only [brkT, BR.ok.injEq] at h
      obtain ⟨_, rfl⟩ := h
      have := brkL_gt cf _ _ _ _ _ _ hb
      omega
end Go.Proofs.YtcceiblmdjbhjaaGreatDoor
/- Regular expressions: trees, signs, the reader by a function (pure). -/
namespace Go.Proofs.YtcceiblmdjbhjaaGreatDoor
open Go.RowKit

/-- A row of trees. -/
inductive Fo where
  | nil
  | cons (kd : Int) (p : Nat → Bool) (mn mx gp : Int) (kids rest : Fo)
/-- A tree. -/
structure Nd where
  kd : Int
  p : Nat → Bool
  mn : Int
  mx : Int
  gp : Int
  kids : Fo
def fo : List Nd → Fo
  | [] => .nil
  | n :: r => .cons n.kd n.p n.mn n.mx n.gp n.kids (fo r)
def Fo.toL : Fo → List Nd
  | .nil => []
  | .cons kd p mn mx gp kids rest => ⟨kd, p, mn, mx, gp, kids⟩ :: rest.toL
def Fo.len : Fo → Nat
  | .nil => 0
  | .cons _ _ _ _ _ _ rest => rest.len + 1
theorem fo_len : ∀ l : List Nd, (fo l).len = l.length
  | [] => rfl
  | _ :: r => by show (fo r).len + 1 = _; rw [fo_len r]; rfl
theorem fo_toL : ∀ f : Fo, fo f.toL = f
  | .nil => rfl
  | .cons _ _ _ _ _ _ rest => by show Fo.cons _ _ _ _ _ _ (fo rest.toL) = _; rw [fo_toL rest]
def zeroN : Nd := ⟨0, noP, 0, 0, 0, .nil⟩
def setN (p : Nat → Bool) : Nd := ⟨1, p, 0, 0, 0, .nil⟩
def kindN (kd : Int) : Nd := ⟨kd, noP, 0, 0, 0, .nil⟩
def allP (c : Nat) : Bool := !noP c
def joinN (kd : Int) (l : List Nd) : Nd :=
  match l with
  | [x] => x
  | l => ⟨kd, noP, 0, 0, 0, fo l⟩
def repN (m n : Int) (x : Nd) : Nd := ⟨6, noP, m, n, 0, fo [x]⟩
def grpN (k : Int) (x : Nd) : Nd := ⟨7, noP, 0, 0, k, fo [x]⟩

/-! ### Signs -/
/-- The text of the sign at a place. -/
def sgT (l : List Int) (k : Nat) : List Int :=
  if k < l.length then (if l.getD k 0 = 92 ∧ k + 1 < l.length then [92, l.getD (k + 1) 0] else [l.getD k 0]) else []
/-- What it does: 0 a byte, 256 the end, else the sign as the extended grammar writes it. -/
def roleC (t : List Int) (ext : Bool) : Int :=
  if t = [] then 256
  else if t = [92, 40] ∨ t = [92, 41] ∨ t = [92, 123] then (if ext then 0 else t.getD 1 0)
  else if t = [40] ∨ t = [41] ∨ t = [123] ∨ t = [43] ∨ t = [63] ∨ t = [124] then (if ext then t.getD 0 0 else 0)
  else if t = [46] ∨ t = [91] ∨ t = [94] ∨ t = [36] ∨ t = [42] then t.getD 0 0
  else 0
def mayQ (c : Int) (ext : Bool) : Bool :=
  if c = 40 ∨ c = 41 ∨ c = 43 ∨ c = 63 ∨ c = 123 ∨ c = 125 ∨ c = 124 then ext
  else decide (c = 46 ∨ c = 91 ∨ c = 93 ∨ c = 42 ∨ c = 94 ∨ c = 36 ∨ c = 47 ∨ c = 92)
/-- The byte that a sign is, or the code of what is wrong. -/
inductive LT where
  | byt (c : Int)
  | bad (code : Nat)
def litR (t : List Int) (ext : Bool) : LT :=
  if ¬ t.getD 0 0 = 92 then .byt (t.getD 0 0)
  else if t = [92, 110] then .byt 10
  else if t = [92, 125] ∧ ext = false then .bad 3
  else if 1 < t.length ∧ mayQ (t.getD 1 0) ext = true then .byt (t.getD 1 0)
  else .bad 10
def dgtB : ByteArray := ⟨#[48, 49, 50, 51, 52, 53, 54, 55, 56, 57]⟩
/-- The digits at a place. -/
def nD (l : List Int) (k : Nat) : Nat := passN (ofBys l) dgtB true k
def dgs (l : List Int) (k : Nat) : List Int := (l.drop k).take (nD l k)
def numOk (l : List Int) (k : Nat) : Bool := wOk (dgs l k) && decide ((dgs l k).length ≤ 3) && decide (wV (dgs l k) ≤ 255)
def numV (l : List Int) (k : Nat) : Int := wV (dgs l k)
def begAt (l : List Int) (k : Nat) (e : List Int) : Bool := decide ((l.drop k).take e.length = e)
def shutT (ext : Bool) : List Int := if ext then [125] else [92, 125]
/-- The numbers of an interval, and where it ends. -/
def itv (l : List Int) (ext : Bool) (k : Nat) : Option (Int × Int × Nat) :=
  if numOk l k = false then none
  else if begAt l (k + nD l k) (shutT ext) = true then some (numV l k, numV l k, k + nD l k + (shutT ext).length)
  else if begAt l (k + nD l k) [44] = false then none
  else if begAt l (k + nD l k + 1) (shutT ext) = true then some (numV l k, -1, k + nD l k + 1 + (shutT ext).length)
  else if (numOk l (k + nD l k + 1) && decide (numV l k ≤ numV l (k + nD l k + 1)) && begAt l (k + nD l k + 1 + nD l (k + nD l k + 1)) (shutT ext)) = true
    then some (numV l k, numV l (k + nD l k + 1), k + nD l k + 1 + nD l (k + nD l k + 1) + (shutT ext).length)
  else none
/-- A sign: kind, text, tree, numbers, what is wrong, where the next one begins. -/
structure Sg where
  kd : Nat
  tx : List Int
  nd : Nd
  lo : Int
  hi : Int
  er : Option (Nat × Nat)
  nx : Nat
def sgR (cf : ByteArray → (Nat → Bool) × Bool) (l : List Int) (ext : Bool) (k : Nat) (t : List Int) (k1 : Nat) (r : Int) : Sg :=
  if r = 0 then
    match litR t ext with
    | .byt c => ⟨0, t, setN (mem [c]), 0, 0, none, k1⟩
    | .bad c => ⟨0, t, zeroN, 0, 0, some (c, k), k1⟩
  else if r = 46 then ⟨0, t, setN allP, 0, 0, none, k1⟩
  else if r = 91 then
    match brkR cf (ofBys (l.drop k1)) false 0 with
    | .ok p nx => ⟨0, t, setN p, 0, 0, none, k1 + nx⟩
    | .bad c pos => ⟨0, t, setN noP, 0, 0, some (c, k1 + pos), k1⟩
  else if r = 94 then ⟨0, t, kindN 2, 0, 0, none, k1⟩
  else if r = 36 then ⟨0, t, kindN 3, 0, 0, none, k1⟩
  else if r = 43 then ⟨1, t, zeroN, 1, -1, none, k1⟩
  else if r = 42 then ⟨1, t, zeroN, 0, -1, none, k1⟩
  else if r = 63 then ⟨1, t, zeroN, 0, 1, none, k1⟩
  else if r = 123 then
    match itv l ext k1 with
    | some (m, n, k2) => ⟨1, t, zeroN, m, n, none, k2⟩
    | none => ⟨1, t, zeroN, 0, 0, some (7, k), k1⟩
  else if r = 40 then ⟨2, t, zeroN, 0, 0, none, k1⟩
  else if r = 41 then ⟨3, t, zeroN, 0, 0, none, k1⟩
  else if r = 124 then ⟨4, t, zeroN, 0, 0, none, k1⟩
  else ⟨5, t, zeroN, 0, 0, none, k1⟩
/-- The sign at a place. -/
def sg (cf : ByteArray → (Nat → Bool) × Bool) (l : List Int) (ext : Bool) (k : Nat) : Sg := sgR cf l ext k (sgT l k) (k + (sgT l k).length) (roleC (sgT l k) ext)
/-- The roles that there are. -/
theorem role_all (t : List Int) (ext : Bool) : roleC t ext = 0 ∨ roleC t ext = 46 ∨ roleC t ext = 91 ∨ roleC t ext = 94 ∨ roleC t ext = 36 ∨ roleC t ext = 43 ∨ roleC t ext = 42 ∨ roleC t ext = 63 ∨ roleC t ext = 123 ∨ roleC t ext = 40 ∨ roleC t ext = 41 ∨ roleC t ext = 124 ∨ (roleC t ext = 256 ∧ t = []) := by
  unfold roleC
  split
  · rename_i h; simp [h]
  split
  · rename_i hc
    rcases hc with e | e | e <;> rw [e] <;> cases ext <;> simp
  split
  · rename_i hc
    rcases hc with e | e | e | e | e | e <;> rw [e] <;> cases ext <;> simp
  split
  · rename_i hc
    rcases hc with e | e | e | e | e <;> rw [e] <;> simp
  · simp
theorem sg_cases (P : Sg → Prop) (cf : ByteArray → (Nat → Bool) × Bool) (l : List Int) (ext : Bool) (k : Nat)
    (h0 : ∀ c, roleC (sgT l k) ext = 0 → litR (sgT l k) ext = .byt c → P ⟨0, sgT l k, setN (mem [c]), 0, 0, none, k + (sgT l k).length⟩)
    (h0b : ∀ c, roleC (sgT l k) ext = 0 → litR (sgT l k) ext = .bad c → P ⟨0, sgT l k, zeroN, 0, 0, some (c, k), k + (sgT l k).length⟩)
    (h46 : roleC (sgT l k) ext = 46 → P ⟨0, sgT l k, setN allP, 0, 0, none, k + (sgT l k).length⟩)
    (h91 : ∀ p nx, roleC (sgT l k) ext = 91 → brkR cf (ofBys (l.drop (k + (sgT l k).length))) false 0 = .ok p nx → P ⟨0, sgT l k, setN p, 0, 0, none, k + (sgT l k).length + nx⟩)
    (h91b : ∀ c pos, roleC (sgT l k) ext = 91 → brkR cf (ofBys (l.drop (k + (sgT l k).length))) false 0 = .bad c pos → P ⟨0, sgT l k, setN noP, 0, 0, some (c, k + (sgT l k).length + pos), k + (sgT l k).length⟩)
    (h94 : roleC (sgT l k) ext = 94 → P ⟨0, sgT l k, kindN 2, 0, 0, none, k + (sgT l k).length⟩)
    (h36 : roleC (sgT l k) ext = 36 → P ⟨0, sgT l k, kindN 3, 0, 0, none, k + (sgT l k).length⟩)
    (h43 : roleC (sgT l k) ext = 43 → P ⟨1, sgT l k, zeroN, 1, -1, none, k + (sgT l k).length⟩)
    (h42 : roleC (sgT l k) ext = 42 → P ⟨1, sgT l k, zeroN, 0, -1, none, k + (sgT l k).length⟩)
    (h63 : roleC (sgT l k) ext = 63 → P ⟨1, sgT l k, zeroN, 0, 1, none, k + (sgT l k).length⟩)
    (h123 : ∀ m n k2, roleC (sgT l k) ext = 123 → itv l ext (k + (sgT l k).length) = some (m, n, k2) → P ⟨1, sgT l k, zeroN, m, n, none, k2⟩)
    (h123b : roleC (sgT l k) ext = 123 → itv l ext (k + (sgT l k).length) = none → P ⟨1, sgT l k, zeroN, 0, 0, some (7, k), k + (sgT l k).length⟩)
    (h40 : roleC (sgT l k) ext = 40 → P ⟨2, sgT l k, zeroN, 0, 0, none, k + (sgT l k).length⟩)
    (h41 : roleC (sgT l k) ext = 41 → P ⟨3, sgT l k, zeroN, 0, 0, none, k + (sgT l k).length⟩)
    (h124 : roleC (sgT l k) ext = 124 → P ⟨4, sgT l k, zeroN, 0, 0, none, k + (sgT l k).length⟩)
    (h256 : roleC (sgT l k) ext = 256 → sgT l k = [] → P ⟨5, sgT l k, zeroN, 0, 0, none, k + (sgT l k).length⟩) : P (sg cf l ext k) := by
  unfold sg
  rcases role_all (sgT l k) ext with h | h | h | h | h | h | h | h | h | h | h | h | ⟨h, h'⟩ <;> rw [h]
  · cases hl : litR (sgT l k) ext with
    | byt c =>
      have e : sgR cf l ext k (sgT l k) (k + (sgT l k).length) 0 = ⟨0, sgT l k, setN (mem [c]), 0, 0, none, k + (sgT l k).length⟩ := by unfold sgR; rw [if_pos rfl, hl]
      rw [e]; exact h0 c h hl
    | bad c =>
      have e : sgR cf l ext k (sgT l k) (k + (sgT l k).length) 0 = ⟨0, sgT l k, zeroN, 0, 0, some (c, k), k + (sgT l k).length⟩ := by unfold sgR; rw [if_pos rfl, hl]
      rw [e]; exact h0b c h hl
  · exact h46 h
  · cases hb : brkR cf (ofBys (l.drop (k + (sgT l k).length))) false 0 with
    | ok p nx =>
      have e : sgR cf l ext k (sgT l k) (k + (sgT l k).length) 91 = ⟨0, sgT l k, setN p, 0, 0, none, k + (sgT l k).length + nx⟩ := by unfold sgR; rw [if_neg (by decide), if_neg (by decide), if_pos rfl, hb]
      rw [e]; exact h91 p nx h hb
    | bad c pos =>
      have e : sgR cf l ext k (sgT l k) (k + (sgT l k).length) 91 = ⟨0, sgT l k, setN noP, 0, 0, some (c, k + (sgT l k).length + pos), k + (sgT l k).length⟩ := by unfold sgR; rw [if_neg (by decide), if_neg (by decide), if_pos rfl, hb]
      rw [e]; exact h91b c pos h hb
  · exact h94 h
  · exact h36 h
  · exact h43 h
  · exact h42 h
  · exact h63 h
  · cases hi : itv l ext (k + (sgT l k).length) with
    | some x =>
      obtain ⟨m, n, k2⟩ := x
      have e : sgR cf l ext k (sgT l k) (k + (sgT l k).length) 123 = ⟨1, sgT l k, zeroN, m, n, none, k2⟩ := by
        show (match itv l ext (k + (sgT l k).length) with | some (m, n, k2) => _ | none => _) = _
        rw [hi]
      rw [e]; exact h123 m n k2 h hi
    | none =>
      have e : sgR cf l ext k (sgT l k) (k + (sgT l k).length) 123 = ⟨1, sgT l k, zeroN, 0, 0, some (7, k), k + (sgT l k).length⟩ := by
        show (match itv l ext (k + (sgT l k).length) with | some (m, n, k2) => _ | none => _) = _
        rw [hi]
      rw [e]; exact h123b h hi
  · exact h40 h
  · exact h41 h
  · exact h124 h
  · exact h256 h h'

/-! ### The reader -/
inductive RR where
  | ok (t : Nd) (k g : Nat)
  | bad (c p : Nat)
inductive RM where
  | re (bs : List Nd)
  | br (items : List Nd)
def endsB (kd : Nat) : Bool := kd == 3 || kd == 4 || kd == 5
def endsP (items : List Nd) : Bool :=
  match items.getLast? with
  | none => false
  | some x => decide (x.kd ≠ 2) && decide (x.kd ≠ 3)
def isByt (ext : Bool) (s : Sg) (nk : Nat) (items : List Nd) : Bool :=
  if ext then false
  else if s.tx = [94] then !items.isEmpty
  else if s.tx = [36] then !endsB nk
  else if s.tx = [42] then !endsP items
  else false
def repL (items : List Nd) (m n : Int) : List Nd :=
  match items.getLast? with
  | none => items
  | some x => items.dropLast ++ [repN m n x]
def rdR (cf : ByteArray → (Nat → Bool) × Bool) (l : List Int) (ext : Bool) : Nat → RM → Nat → Nat → Nat → Option RR
  | 0, _, _, _, _ => none
  | n + 1, .re bs, k, g, o =>
    match rdR cf l ext n (.br []) k g o with
    | some (.ok b k1 g1) => if (sg cf l ext k1).kd = 4 then rdR cf l ext n (.re (bs ++ [b])) (sg cf l ext k1).nx g1 o else some (.ok (joinN 5 (bs ++ [b])) k1 g1)
    | r => r
  | n + 1, .br items, k, g, o =>
    if endsB (sg cf l ext k).kd = true then
      (if items = [] then some (.bad (if ext = true ∧ (sg cf l ext k).kd = 3 ∧ o = 0 then 9 else 3) k) else some (.ok (joinN 4 items) k g))
    else if isByt ext (sg cf l ext k) (sg cf l ext (sg cf l ext k).nx).kd items = true then rdR cf l ext n (.br (items ++ [setN (mem (sg cf l ext k).tx)])) (sg cf l ext k).nx g o
    else if (sg cf l ext k).kd = 1 then
      (if endsP items = false then some (.bad 3 k)
      else match (sg cf l ext k).er with
        | some (c, p) => some (.bad c p)
        | none => rdR cf l ext n (.br (repL items (sg cf l ext k).lo (sg cf l ext k).hi)) (sg cf l ext k).nx g o)
    else if (sg cf l ext k).kd = 2 then
      (if g = 9 then some (.bad 5 k)
      else match rdR cf l ext n (.re []) (sg cf l ext k).nx (g + 1) (o + 1) with
        | some (.ok t k1 g1) => if (sg cf l ext k1).kd = 3 then rdR cf l ext n (.br (items ++ [grpN (g + 1 : Nat) t])) (sg cf l ext k1).nx g1 o else some (.bad 9 k1)
        | r => r)
    else match (sg cf l ext k).er with
      | some (c, p) => some (.bad c p)
      | none => rdR cf l ext n (.br (items ++ [(sg cf l ext k).nd])) (sg cf l ext k).nx g o
/-- What Parse tells, by so many calls. -/
def parseN (cf : ByteArray → (Nat → Bool) × Bool) (l : List Int) (ext : Bool) (n : Nat) : Option RR :=
  if 256 < l.length then some (.bad 2 0)
  else match rdR cf l ext n (.re []) 0 0 0 with
    | some (.ok t k g) => if (sg cf l ext k).kd = 5 then some (.ok t k g) else some (.bad 9 k)
    | r => r

theorem sgT_le (l : List Int) (k : Nat) (h : k ≤ l.length) : k + (sgT l k).length ≤ l.length := by
  unfold sgT
  split
  · split
    · simp; omega
    · simp; omega
  · simp; omega
theorem sgT_pos (l : List Int) (k : Nat) (h : k < l.length) : 0 < (sgT l k).length := by
  unfold sgT
  rw [if_pos h]
  split <;> simp
theorem sgT_end (l : List Int) (k : Nat) (h : ¬ k < l.length) : sgT l k = [] := by
  unfold sgT
  rw [if_neg h]
theorem nD_le (l : List Int) (k : Nat) (h : k ≤ l.length) : k + nD l k ≤ l.length := by
  have := (stopN_is (passB (ofBys l) dgtB true k) ((ofBys l).size - k)).1
  unfold nD passN
  rw [ofBys_size] at *
  omega
theorem begAt_le {l : List Int} {k : Nat} {e : List Int} (h : begAt l k e = true) (he : e ≠ []) : k + e.length ≤ l.length := by
  unfold begAt at h
  simp only [decide_eq_true_eq] at h
  have h1 := congrArg List.length h
  rw [List.length_take, List.length_drop] at h1
  have h2 : 0 < e.length := List.length_pos_iff.2 he
  omega
theorem shutT_ne (ext : Bool) : shutT ext ≠ [] := by cases ext <;> simp [shutT]
theorem itv_le {l : List Int} {ext : Bool} {k : Nat} {m n : Int} {k2 : Nat} (h : itv l ext k = some (m, n, k2)) : k2 ≤ l.length := by
  unfold itv at h
  split at h
  · cases h
  split at h
  · rename_i hb
    simp only [Option.some.injEq, Prod.mk.injEq] at h
    have := begAt_le hb (shutT_ne ext)
    omega
  split at h
  · cases h
  split at h
  · rename_i hb
    simp only [Option.some.injEq, Prod.mk.injEq] at h
    have := begAt_le hb (shutT_ne ext)
    omega
  split at h
  · rename_i hb
    simp only [Bool.and_eq_true] at hb
    simp only [Option.some.injEq, Prod.mk.injEq] at h
    have := begAt_le hb.2 (shutT_ne ext)
    omega
  · cases h
theorem itv_ge {l : List Int} {ext : Bool} {k : Nat} {m n : Int} {k2 : Nat} (h : itv l ext k = some (m, n, k2)) : k ≤ k2 := by
  unfold itv at h
  split at h
  · cases h
  split at h
  · simp only [Option.some.injEq, Prod.mk.injEq] at h; omega
  split at h
  · cases h
  split at h
  · simp only [Option.some.injEq, Prod.mk.injEq] at h; omega
  split at h
  · simp only [Option.some.injEq, Prod.mk.injEq] at h; omega
  · cases h
theorem sg_tx (cf : ByteArray → (Nat → Bool) × Bool) (l : List Int) (ext : Bool) (k : Nat) : (sg cf l ext k).tx = sgT l k := by
  apply sg_cases (fun s => s.tx = sgT l k) <;> intros <;> rfl
/-- Where the next sign begins. -/
theorem sg_nx (cf : ByteArray → (Nat → Bool) × Bool) (l : List Int) (ext : Bool) (k : Nat) (h : k ≤ l.length) : k + (sgT l k).length ≤ (sg cf l ext k).nx ∧ (sg cf l ext k).nx ≤ l.length := by
  have h0 := sgT_le l k h
  apply sg_cases (fun s => k + (sgT l k).length ≤ s.nx ∧ s.nx ≤ l.length)
  case h91 =>
    intro p nx _ hb
    have := brkR_gt cf _ _ hb
    rw [ofBys_size, List.length_drop] at this
    exact ⟨by simp, by simp; omega⟩
  case h123 =>
    intro m n k2 _ hi
    exact ⟨itv_ge hi, itv_le hi⟩
  all_goals
    intros
    exact ⟨Nat.le_refl _, h0⟩
theorem role_end (l : List Int) (ext : Bool) (k : Nat) (h : k < l.length) : roleC (sgT l k) ext ≠ 256 := by
  have hp := sgT_pos l k h
  have hne : sgT l k ≠ [] := fun e => by rw [e] at hp; simp at hp
  unfold roleC
  rw [if_neg hne]
  split
  · rename_i hc
    rcases hc with e | e | e <;> rw [e] <;> cases ext <;> decide
  split
  · rename_i hc
    rcases hc with e | e | e | e | e | e <;> rw [e] <;> cases ext <;> decide
  split
  · rename_i hc
    rcases hc with e | e | e | e | e <;> rw [e] <;> decide
  · decide
theorem sg_last (cf : ByteArray → (Nat → Bool) × Bool) (l : List Int) (ext : Bool) (k : Nat) : (sg cf l ext k).kd = 5 → ¬ k < l.length := by
  apply sg_cases (fun s => s.kd = 5 → ¬ k < l.length)
  case h256 =>
    intro h _ _ hk
    exact role_end l ext k hk h
  all_goals
    intros
    rename_i h
    cases h
/-- At the end there is the last sign. -/
theorem sg_end (cf : ByteArray → (Nat → Bool) × Bool) (l : List Int) (ext : Bool) (k : Nat) (h : ¬ k < l.length) : (sg cf l ext k).kd = 5 := by
  have e : roleC (sgT l k) ext = 256 := by rw [sgT_end l k h]; rfl
  unfold sg
  rw [e]
  rfl
/-- A sign that is not the last one has a byte at least. -/
theorem sg_gt (cf : ByteArray → (Nat → Bool) × Bool) (l : List Int) (ext : Bool) (k : Nat) (h : k ≤ l.length) (hk : (sg cf l ext k).kd ≠ 5) : k < (sg cf l ext k).nx := by
  have hlt : k < l.length := by
    rcases Nat.lt_or_ge k l.length with h' | h'
    · exact h'
    · exact absurd (sg_end cf l ext k (by omega)) hk
  have := sgT_pos l k hlt
  have := (sg_nx cf l ext k h).1
  omega
end Go.Proofs.YtcceiblmdjbhjaaGreatDoor
/- Automata (pure): what an expression matches; how heavy it is; its automaton by a function; the automaton goes on behind just what the expression matches. -/
namespace Go.Proofs.YtcceiblmdjbhjaaGreatDoor
open Go.RowKit

/-- So many times. -/
def iterR (R : Nat → Nat → Prop) : Nat → Nat → Nat → Prop
  | 0, i, j => i = j
  | k + 1, i, j => ∃ m, R i m ∧ iterR R k m j
theorem iterR_add (R : Nat → Nat → Prop) (b : Nat) : ∀ a i j, iterR R (a + b) i j ↔ ∃ m, iterR R a i m ∧ iterR R b m j
  | 0, i, j => by
    rw [Nat.zero_add]
    exact ⟨fun h => ⟨i, rfl, h⟩, fun ⟨m, h1, h2⟩ => by have e : i = m := h1; rw [e]; exact h2⟩
  | a + 1, i, j => by
    rw [Nat.succ_add]
    constructor
    · rintro ⟨m, h1, h2⟩
      obtain ⟨q, h3, h4⟩ := (iterR_add R b a m j).1 h2
      exact ⟨q, ⟨m, h1, h3⟩, h4⟩
    · rintro ⟨q, ⟨m, h1, h3⟩, h4⟩
      exact ⟨m, h1, (iterR_add R b a m j).2 ⟨q, h3, h4⟩⟩
theorem iterR_one {R : Nat → Nat → Prop} {i j : Nat} : iterR R 1 i j ↔ R i j :=
  ⟨fun ⟨m, h1, h2⟩ => by have e : m = j := h2; rw [← e]; exact h1, fun h => ⟨j, h, rfl⟩⟩
theorem iterR_id {R : Nat → Nat → Prop} (h : ∀ i j, R i j ↔ i = j) : ∀ k i j, iterR R k i j ↔ i = j
  | 0, _, _ => Iff.rfl
  | k + 1, i, j => ⟨fun ⟨m, h1, h2⟩ => ((h i m).1 h1).trans ((iterR_id h k m j).1 h2), fun e => ⟨i, (h i i).2 rfl, (iterR_id h k i j).2 e⟩⟩

/-- What a tree matches in l, from where to where; c, a: its kids one behind the other, one of them. -/
def ndM (l : List Int) (kd : Int) (p : Nat → Bool) (mn mx : Int) (c a : Nat → Nat → Prop) (i j : Nat) : Prop :=
  if kd = 1 then j = i + 1 ∧ i < l.length ∧ p (l.getD i 0).toNat = true
  else if kd = 2 then i = j ∧ i = 0
  else if kd = 3 then i = j ∧ i = l.length
  else if kd = 5 then a i j
  else if kd = 6 then ∃ k : Nat, mn ≤ k ∧ (mx < 0 ∨ (k : Int) ≤ mx) ∧ iterR c k i j
  else c i j
/-- A row of trees: one behind the other (true), or one of them. -/
def Fo.M (l : List Int) : Fo → Bool → Nat → Nat → Prop
  | .nil, b, i, j => if b then i = j else False
  | .cons kd p mn mx _ kids rest, b, i, j =>
    if b then ∃ k, ndM l kd p mn mx (kids.M l true) (kids.M l false) i k ∧ rest.M l true k j
    else ndM l kd p mn mx (kids.M l true) (kids.M l false) i j ∨ rest.M l false i j
def Nd.M (l : List Int) (n : Nd) : Nat → Nat → Prop := ndM l n.kd n.p n.mn n.mx (n.kids.M l true) (n.kids.M l false)

/-- A state: the end; a byte of a set; the subject's beginning; its end; two ways on. -/
inductive St where
  | acc
  | eat (p : Nat → Bool) (nx : Nat)
  | beg (nx : Nat)
  | fin (nx : Nat)
  | fork (nx ot : Nat)
abbrev GB := List St → Nat → List St × Nat
/-- So many copies; none more, where one takes no state. -/
def reqB (one : GB) : Nat → GB
  | 0, g, s => (g, s)
  | k + 1, g, s => if (one g s).2 = s then ((one g s).1, s) else reqB one k (one g s).1 (one g s).2
/-- So many copies, each of which may be passed over. -/
def optB (one : GB) (nx : Nat) : Nat → GB
  | 0, g, s => (g, s)
  | k + 1, g, s => optB one nx k ((one g s).1 ++ [.fork (one g s).2 nx]) (one g s).1.length
/-- Any number of times. -/
def starB (one : GB) (g : List St) (nx : Nat) : List St × Nat :=
  ((one (g ++ [.fork 0 nx]) g.length).1.set g.length (.fork (one (g ++ [.fork 0 nx]) g.length).2 nx), g.length)
def bgnB (one : GB) (mx : Int) (g : List St) (nx : Nat) : List St × Nat := if mx = -1 then starB one g nx else (g, nx)
def timesB (one : GB) (mn mx : Int) (g : List St) (nx : Nat) : List St × Nat :=
  reqB one mn.toNat (optB one nx (mx - mn).toNat (bgnB one mx g nx).1 (bgnB one mx g nx).2).1 (optB one nx (mx - mn).toNat (bgnB one mx g nx).1 (bgnB one mx g nx).2).2
def ndB (kd : Int) (p : Nat → Bool) (mn mx : Int) (c a : GB) (g : List St) (nx : Nat) : List St × Nat :=
  if kd = 1 then (g ++ [.eat p nx], g.length)
  else if kd = 2 then (g ++ [.beg nx], g.length)
  else if kd = 3 then (g ++ [.fin nx], g.length)
  else if kd = 5 then a g nx
  else if kd = 6 then timesB c mn mx g nx
  else c g nx
/-- The states of a row of trees, ahead of nx; and where it begins. -/
def Fo.B : Fo → Bool → GB
  | .nil, _, g, nx => (g, nx)
  | .cons kd p mn mx _ kids rest, b, g, nx =>
    if b then ndB kd p mn mx (kids.B true) (kids.B false) (rest.B true g nx).1 (rest.B true g nx).2
    else if rest.len = 0 then ndB kd p mn mx (kids.B true) (kids.B false) g nx
    else ((ndB kd p mn mx (kids.B true) (kids.B false) (rest.B false g nx).1 nx).1 ++ [.fork (ndB kd p mn mx (kids.B true) (kids.B false) (rest.B false g nx).1 nx).2 (rest.B false g nx).2], (ndB kd p mn mx (kids.B true) (kids.B false) (rest.B false g nx).1 nx).1.length)
def Nd.B (n : Nd) : GB := ndB n.kd n.p n.mn n.mx (n.kids.B true) (n.kids.B false)
/-- The automaton of a tree. -/
def Nd.G (n : Nd) : List St × Nat := n.B [.acc] 0
/-- Trees as the reader makes them. -/
def okN (kd mn mx : Int) (n : Nat) : Prop := (kd = 5 → 0 < n) ∧ (kd = 6 → 0 ≤ mn ∧ (mx = -1 ∨ mn ≤ mx) ∧ mn ≤ 255 ∧ mx ≤ 255 ∧ n = 1)
def Fo.Ok : Fo → Prop
  | .nil => True
  | .cons kd _ mn mx _ kids rest => okN kd mn mx kids.len ∧ kids.Ok ∧ rest.Ok
def Nd.Ok (n : Nd) : Prop := okN n.kd n.mn n.mx n.kids.len ∧ n.kids.Ok

/-- From the state x at place i so many steps lead to an end. -/
def AccN (l : List Int) (F : Nat → Prop) (G : List St) : Nat → Nat → Nat → Prop
  | 0, _, _ => False
  | k + 1, x, i =>
    match G[x]? with
    | some .acc => F i
    | some (.eat p y) => i < l.length ∧ p (l.getD i 0).toNat = true ∧ AccN l F G k y (i + 1)
    | some (.beg y) => i = 0 ∧ AccN l F G k y i
    | some (.fin y) => i = l.length ∧ AccN l F G k y i
    | some (.fork y z) => AccN l F G k y i ∨ AccN l F G k z i
    | none => False
theorem accN_eat {l : List Int} {F : Nat → Prop} {G : List St} {k x y i : Nat} {p : Nat → Bool} (e : G[x]? = some (.eat p y)) : AccN l F G (k + 1) x i ↔ i < l.length ∧ p (l.getD i 0).toNat = true ∧ AccN l F G k y (i + 1) := by
  conv => lhs; unfold AccN
  simp only [e]
theorem accN_beg {l : List Int} {F : Nat → Prop} {G : List St} {k x y i : Nat} (e : G[x]? = some (.beg y)) : AccN l F G (k + 1) x i ↔ i = 0 ∧ AccN l F G k y i := by
  conv => lhs; unfold AccN
  simp only [e]
theorem accN_fin {l : List Int} {F : Nat → Prop} {G : List St} {k x y i : Nat} (e : G[x]? = some (.fin y)) : AccN l F G (k + 1) x i ↔ i = l.length ∧ AccN l F G k y i := by
  conv => lhs; unfold AccN
  simp only [e]
theorem accN_fork {l : List Int} {F : Nat → Prop} {G : List St} {k x y z i : Nat} (e : G[x]? = some (.fork y z)) : AccN l F G (k + 1) x i ↔ AccN l F G k y i ∨ AccN l F G k z i := by
  conv => lhs; unfold AccN
  simp only [e]
theorem accN_acc {l : List Int} {F : Nat → Prop} {G : List St} {k x i : Nat} (e : G[x]? = some .acc) : AccN l F G (k + 1) x i ↔ F i := by
  conv => lhs; unfold AccN
  simp only [e]

/-- G has the states of g' from the place a on. -/
def AgrS (G g' : List St) (a : Nat) : Prop := ∀ x, a ≤ x → x < g'.length → G[x]? = g'[x]?
/-- r is g with states for R put in ahead of nx. -/
structure GoodAt (l : List Int) (F : Nat → Prop) (R : Nat → Nat → Prop) (g : List St) (nx : Nat) (r : List St × Nat) : Prop where
  pre : g <+: r.1
  lt : r.2 < r.1.length
  new : (r.2 = nx ∧ ∀ i j, R i j ↔ i = j) ∨ g.length ≤ r.2
  noacc : ∀ x, g.length ≤ x → r.1[x]? ≠ some .acc
  fw : ∀ G, AgrS G r.1 g.length → ∀ k i, AccN l F G k r.2 i → ∃ j m, m ≤ k ∧ R i j ∧ AccN l F G m nx j
  bw : ∀ G, AgrS G r.1 g.length → ∀ i j m, R i j → AccN l F G m nx j → ∃ k, AccN l F G k r.2 i
theorem pre_at {g h : List St} (hp : g <+: h) {x : Nat} (hx : x < g.length) : h[x]? = g[x]? := by
  obtain ⟨t, rfl⟩ := hp
  exact List.getElem?_append_left hx
theorem pre_len {g h : List St} (hp : g <+: h) : g.length ≤ h.length := by
  obtain ⟨t, rfl⟩ := hp
  simp
theorem AgrS.lo {G g h : List St} {a : Nat} (hp : g <+: h) (ha : AgrS G h a) : AgrS G g a := fun x h1 h2 => (ha x h1 (Nat.lt_of_lt_of_le h2 (pre_len hp))).trans (pre_at hp h2)
theorem AgrS.hi {G h : List St} {a b : Nat} (hab : a ≤ b) (ha : AgrS G h a) : AgrS G h b := fun x h1 h2 => ha x (Nat.le_trans hab h1) h2
theorem GoodAt.congr {l : List Int} {F : Nat → Prop} {R R' : Nat → Nat → Prop} {g : List St} {nx : Nat} {r : List St × Nat} (h : GoodAt l F R g nx r) (e : ∀ i j, R i j ↔ R' i j) : GoodAt l F R' g nx r :=
  ⟨h.pre, h.lt, h.new.imp (fun ⟨h1, h2⟩ => ⟨h1, fun i j => (e i j).symm.trans (h2 i j)⟩) id, h.noacc,
    fun G hG k i ha => by obtain ⟨j, m, h1, h2, h3⟩ := h.fw G hG k i ha; exact ⟨j, m, h1, (e i j).1 h2, h3⟩,
    fun G hG i j m hr ha => h.bw G hG i j m ((e i j).2 hr) ha⟩
theorem GoodAt.refl (l : List Int) (F : Nat → Prop) {g : List St} {nx : Nat} (h : nx < g.length) : GoodAt l F (fun i j => i = j) g nx (g, nx) :=
  ⟨List.prefix_refl _, h, Or.inl ⟨rfl, fun _ _ => Iff.rfl⟩, fun x hx e => (by rw [List.getElem?_eq_none hx] at e; cases e),
    fun _ _ k i ha => ⟨i, k, Nat.le_refl _, rfl, ha⟩, fun _ _ i j m e ha => ⟨m, by rw [e]; exact ha⟩⟩
theorem GoodAt.comp {l : List Int} {F : Nat → Prop} {R1 R2 : Nat → Nat → Prop} {g : List St} {nx : Nat} {r1 r2 : List St × Nat} (h2 : GoodAt l F R2 g nx r2) (h1 : GoodAt l F R1 r2.1 r2.2 r1) : GoodAt l F (fun i j => ∃ k, R1 i k ∧ R2 k j) g nx r1 := by
  have hl := pre_len h2.pre
  refine ⟨h2.pre.trans h1.pre, h1.lt, ?_, fun x hx => ?_, fun G hG k i ha => ?_, fun G hG i j m hr ha => ?_⟩
  · rcases h1.new with ⟨e, hi⟩ | hn
    · rcases h2.new with ⟨e2, hi2⟩ | hn2
      · exact Or.inl ⟨e.trans e2, fun i j => ⟨fun ⟨k, a, b⟩ => ((hi i k).1 a).trans ((hi2 k j).1 b), fun e => ⟨i, (hi i i).2 rfl, (hi2 i j).2 e⟩⟩⟩
      · exact Or.inr (by rw [e]; exact hn2)
    · exact Or.inr (Nat.le_trans hl hn)
  · by_cases hx2 : x < r2.1.length
    · rw [pre_at h1.pre hx2]; exact h2.noacc x hx
    · exact h1.noacc x (Nat.le_of_not_lt hx2)
  · obtain ⟨j, m, hm, hr, ha2⟩ := h1.fw G (hG.hi hl) k i ha
    obtain ⟨j', m', hm', hr', ha3⟩ := h2.fw G (hG.lo h1.pre) m j ha2
    exact ⟨j', m', Nat.le_trans hm' hm, ⟨j, hr, hr'⟩, ha3⟩
  · obtain ⟨q, hr1, hr2⟩ := hr
    obtain ⟨k, hk⟩ := h2.bw G (hG.lo h1.pre) q j m hr2 ha
    exact h1.bw G (hG.hi hl) i q k hr1 hk
/-- One state more. -/
theorem good_put {l : List Int} {F : Nat → Prop} {R : Nat → Nat → Prop} {g h : List St} {nx : Nat} {s : St} (hp : g <+: h) (hna : ∀ x, g.length ≤ x → h[x]? ≠ some .acc) (hs : s ≠ .acc)
    (fw : ∀ G, AgrS G h g.length → G[h.length]? = some s → ∀ k i, AccN l F G (k + 1) h.length i → ∃ j m, m ≤ k + 1 ∧ R i j ∧ AccN l F G m nx j)
    (bw : ∀ G, AgrS G h g.length → G[h.length]? = some s → ∀ i j m, R i j → AccN l F G m nx j → ∃ k, AccN l F G k h.length i) : GoodAt l F R g nx (h ++ [s], h.length) := by
  have hl := pre_len hp
  have hh : (h ++ [s])[h.length]? = some s := by rw [List.getElem?_append_right (Nat.le_refl _), Nat.sub_self]; rfl
  have hG : ∀ G, AgrS G (h ++ [s]) g.length → AgrS G h g.length ∧ G[h.length]? = some s := fun G hG =>
    ⟨hG.lo (List.prefix_append _ _), (hG h.length hl (by simp)).trans hh⟩
  refine ⟨hp.trans (List.prefix_append _ _), by simp, Or.inr hl, fun x hx e => ?_, fun G h0 k i ha => ?_, fun G h0 i j m hr ha => bw G (hG G h0).1 (hG G h0).2 i j m hr ha⟩
  · by_cases h1 : x < h.length
    · rw [List.getElem?_append_left h1] at e; exact hna x hx e
    · rcases Nat.lt_or_eq_of_le (Nat.le_of_not_lt h1) with h2 | h2
      · rw [List.getElem?_eq_none (by simp; omega)] at e; cases e
      · subst h2; rw [hh] at e; exact hs (Option.some.inj e)
  · cases k with
    | zero => exact ha.elim
    | succ k => exact fw G (hG G h0).1 (hG G h0).2 k i ha
theorem no_acc_refl (g : List St) : ∀ x, g.length ≤ x → g[x]? ≠ some .acc := fun x hx e => by rw [List.getElem?_eq_none hx] at e; cases e
theorem good_eat (l : List Int) (F : Nat → Prop) (p : Nat → Bool) (g : List St) (nx : Nat) : GoodAt l F (fun i j => j = i + 1 ∧ i < l.length ∧ p (l.getD i 0).toNat = true) g nx (g ++ [.eat p nx], g.length) :=
  good_put (List.prefix_refl _) (no_acc_refl g) (fun e => by cases e)
    (fun G _ e k i ha => by have h := (accN_eat e).1 ha; exact ⟨i + 1, k, by omega, ⟨rfl, h.1, h.2.1⟩, h.2.2⟩)
    (fun G _ e i j m hr ha => ⟨m + 1, (accN_eat e).2 ⟨hr.2.1, hr.2.2, by rw [← hr.1]; exact ha⟩⟩)
theorem good_beg (l : List Int) (F : Nat → Prop) (g : List St) (nx : Nat) : GoodAt l F (fun i j => i = j ∧ i = 0) g nx (g ++ [.beg nx], g.length) :=
  good_put (List.prefix_refl _) (no_acc_refl g) (fun e => by cases e)
    (fun G _ e k i ha => by have h := (accN_beg e).1 ha; exact ⟨i, k, by omega, ⟨rfl, h.1⟩, h.2⟩)
    (fun G _ e i j m hr ha => ⟨m + 1, (accN_beg e).2 ⟨hr.2, by rw [hr.1]; exact ha⟩⟩)
theorem good_fin (l : List Int) (F : Nat → Prop) (g : List St) (nx : Nat) : GoodAt l F (fun i j => i = j ∧ i = l.length) g nx (g ++ [.fin nx], g.length) :=
  good_put (List.prefix_refl _) (no_acc_refl g) (fun e => by cases e)
    (fun G _ e k i ha => by have h := (accN_fin e).1 ha; exact ⟨i, k, by omega, ⟨rfl, h.1⟩, h.2⟩)
    (fun G _ e i j m hr ha => ⟨m + 1, (accN_fin e).2 ⟨hr.2, by rw [hr.1]; exact ha⟩⟩)
/-- One of two. -/
theorem good_alt {l : List Int} {F : Nat → Prop} {R1 R2 : Nat → Nat → Prop} {g : List St} {nx : Nat} {r q : List St × Nat} (h2 : GoodAt l F R2 g nx r) (h1 : GoodAt l F R1 r.1 nx q) : GoodAt l F (fun i j => R1 i j ∨ R2 i j) g nx (q.1 ++ [.fork q.2 r.2], q.1.length) := by
  have hl := pre_len h2.pre
  refine good_put (h2.pre.trans h1.pre) (fun x hx => ?_) (fun e => by cases e) (fun G hG e k i ha => ?_) (fun G hG e i j m hr ha => ?_)
  · by_cases hx2 : x < r.1.length
    · rw [pre_at h1.pre hx2]; exact h2.noacc x hx
    · exact h1.noacc x (Nat.le_of_not_lt hx2)
  · rcases (accN_fork e).1 ha with h | h
    · obtain ⟨j, m, hm, hr, h'⟩ := h1.fw G (hG.hi hl) k i h
      exact ⟨j, m, by omega, Or.inl hr, h'⟩
    · obtain ⟨j, m, hm, hr, h'⟩ := h2.fw G (hG.lo h1.pre) k i h
      exact ⟨j, m, by omega, Or.inr hr, h'⟩
  · rcases hr with hr | hr
    · obtain ⟨k, hk⟩ := h1.bw G (hG.hi hl) i j m hr ha
      exact ⟨k + 1, (accN_fork e).2 (Or.inl hk)⟩
    · obtain ⟨k, hk⟩ := h2.bw G (hG.lo h1.pre) i j m hr ha
      exact ⟨k + 1, (accN_fork e).2 (Or.inr hk)⟩
/-- A way of making states for R. -/
def GoodB (l : List Int) (F : Nat → Prop) (R : Nat → Nat → Prop) (B : GB) : Prop := ∀ g nx, nx < g.length → GoodAt l F R g nx (B g nx)
theorem good_req {l : List Int} {F : Nat → Prop} {R : Nat → Nat → Prop} {B : GB} (hB : GoodB l F R B) : ∀ k, GoodB l F (iterR R k) (reqB B k)
  | 0 => fun g nx h => GoodAt.refl l F h
  | k + 1 => fun g nx h => by
    have h1 := hB g nx h
    unfold reqB
    split
    · rename_i e
      rcases h1.new with ⟨_, hi⟩ | hn
      · have h2 := h1.congr (R' := iterR R (k + 1)) fun i j => (hi i j).trans (iterR_id hi (k + 1) i j).symm
        have e3 : ((B g nx).1, nx) = B g nx := Prod.ext rfl e.symm
        rw [e3]
        exact h2
      · omega
    · refine (h1.comp (good_req hB k (B g nx).1 (B g nx).2 h1.lt)).congr fun i j => ?_
      exact ⟨fun ⟨m, a, b⟩ => (iterR_add R 1 k i j).2 ⟨m, a, iterR_one.2 b⟩, fun h => by
        obtain ⟨m, a, b⟩ := (iterR_add R 1 k i j).1 h
        exact ⟨m, a, iterR_one.1 b⟩⟩
theorem good_opt {l : List Int} {F : Nat → Prop} {R : Nat → Nat → Prop} {B : GB} (hB : GoodB l F R B) {g0 : List St} {nx : Nat} (hnx : nx < g0.length) : ∀ k c g s, GoodAt l F (fun i j => ∃ q, q ≤ c ∧ iterR R q i j) g0 nx (g, s) → GoodAt l F (fun i j => ∃ q, q ≤ c + k ∧ iterR R q i j) g0 nx (optB B nx k g s)
  | 0, c, g, s, h => h
  | k + 1, c, g, s, h => by
    unfold optB
    have h1 := hB g s h.lt
    have hl := pre_len h.pre
    have hp : g <+: (B g s).1 := h1.pre
    refine (good_opt hB hnx k (c + 1) _ _ (good_put (h.pre.trans hp) (fun x hx => ?_) (fun e => by cases e) (fun G hG e k' i ha => ?_) (fun G hG e i j m hr ha => ?_))).congr fun i j => by rw [Nat.add_assoc, Nat.add_comm 1 k]
    · by_cases hx2 : x < g.length
      · rw [pre_at hp hx2]; exact h.noacc x hx
      · exact h1.noacc x (Nat.le_of_not_lt hx2)
    · rcases (accN_fork e).1 ha with h' | h'
      · obtain ⟨j, m, hm, hr, h3⟩ := h1.fw G (hG.hi hl) k' i h'
        obtain ⟨j', m', hm', ⟨q, hq, hr'⟩, h4⟩ := h.fw G (hG.lo hp) m j h3
        exact ⟨j', m', by omega, ⟨q + 1, by omega, j, hr, hr'⟩, h4⟩
      · exact ⟨i, k', by omega, ⟨0, by omega, rfl⟩, h'⟩
    · obtain ⟨q, hq, hr⟩ := hr
      cases q with
      | zero => exact ⟨m + 1, (accN_fork e).2 (Or.inr (by have e' : i = j := hr; rw [e']; exact ha))⟩
      | succ q =>
        obtain ⟨t, ht, hr'⟩ := hr
        obtain ⟨k1, hk1⟩ := h.bw G (hG.lo hp) t j m ⟨q, by omega, hr'⟩ ha
        obtain ⟨k2, hk2⟩ := h1.bw G (hG.hi hl) i t k1 ht hk1
        exact ⟨k2 + 1, (accN_fork e).2 (Or.inl hk2)⟩
theorem pre_set {g h : List St} (hp : g <+: h) (s : St) (hx : g.length < h.length) : g <+: h.set g.length s := by
  obtain ⟨t, rfl⟩ := hp
  rw [List.set_append_right _ _ (Nat.le_refl _)]
  exact List.prefix_append _ _
theorem good_star {l : List Int} {F : Nat → Prop} {R : Nat → Nat → Prop} {B : GB} (hB : GoodB l F R B) (g : List St) (nx : Nat) : GoodAt l F (fun i j => ∃ q, iterR R q i j) g nx (starB B g nx) := by
  have h1 := hB (g ++ [.fork 0 nx]) g.length (by simp)
  unfold starB
  generalize hr : B (g ++ [.fork 0 nx]) g.length = r at h1 ⊢
  have hgr : g <+: r.1 := (List.prefix_append _ _).trans h1.pre
  have hlen : g.length < r.1.length := by have := pre_len h1.pre; simp at this; omega
  have hL : (r.1.set g.length (.fork r.2 nx))[g.length]? = some (.fork r.2 nx) := List.getElem?_set_self hlen
  have hO : ∀ x, ¬ x = g.length → (r.1.set g.length (.fork r.2 nx))[x]? = r.1[x]? := fun x hx => List.getElem?_set_ne (fun e => hx e.symm)
  have hag : ∀ G, AgrS G (r.1.set g.length (.fork r.2 nx)) g.length → AgrS G r.1 (g ++ [St.fork 0 nx]).length ∧ G[g.length]? = some (.fork r.2 nx) := fun G hG => by
    refine ⟨fun x h2 h3 => ?_, (hG g.length (Nat.le_refl _) (by simpa using hlen)).trans hL⟩
    simp at h2
    exact (hG x (by omega) (by simpa using h3)).trans (hO x (by omega))
  refine ⟨pre_set hgr _ hlen, by simpa using hlen, Or.inr (Nat.le_refl _), fun x hx e => ?_, fun G hG => ?_, fun G hG => ?_⟩
  · by_cases h2 : x = g.length
    · subst h2; rw [hL] at e; cases e
    · rw [hO x h2] at e
      exact h1.noacc x (by simp; omega) e
  · obtain ⟨ha, he⟩ := hag G hG
    intro k
    induction k using Nat.strongRecOn with
    | ind k ih =>
      intro i hac
      cases k with
      | zero => exact hac.elim
      | succ k =>
        rcases (accN_fork he).1 hac with h | h
        · obtain ⟨j, m, hm, hr, h3⟩ := h1.fw G ha k i h
          obtain ⟨j', m', hm', ⟨q, hq⟩, h4⟩ := ih m (by omega) j h3
          exact ⟨j', m', by omega, ⟨q + 1, j, hr, hq⟩, h4⟩
        · exact ⟨i, k, by omega, ⟨0, rfl⟩, h⟩
  · obtain ⟨ha, he⟩ := hag G hG
    rintro i j m ⟨q, hq⟩ hac
    induction q generalizing i with
    | zero => exact ⟨m + 1, (accN_fork he).2 (Or.inr (by have e' : i = j := hq; rw [e']; exact hac))⟩
    | succ q ih =>
      obtain ⟨t, ht, hq'⟩ := hq
      obtain ⟨k1, hk1⟩ := ih t hq'
      obtain ⟨k2, hk2⟩ := h1.bw G ha i t k1 ht hk1
      exact ⟨k2 + 1, (accN_fork he).2 (Or.inl hk2)⟩
theorem optB_neg (B : GB) (nx : Nat) (g : List St) (s : Nat) (mn mx : Int) (h : mx - mn ≤ 0) : optB B nx (mx - mn).toNat g s = (g, s) := by
  rw [show (mx - mn).toNat = 0 by omega]
  rfl
theorem good_times {l : List Int} {F : Nat → Prop} {R : Nat → Nat → Prop} {B : GB} (hB : GoodB l F R B) (mn mx : Int) (h0 : 0 ≤ mn) (hx : mx = -1 ∨ mn ≤ mx) : GoodB l F (fun i j => ∃ k : Nat, mn ≤ k ∧ (mx < 0 ∨ (k : Int) ≤ mx) ∧ iterR R k i j) (timesB B mn mx) := by
  intro g nx h
  unfold timesB
  rcases hx with hx | hx
  · rw [optB_neg _ _ _ _ _ _ (by omega)]
    unfold bgnB
    rw [if_pos hx]
    have h1 := good_star hB g nx
    refine (h1.comp (good_req hB mn.toNat _ _ h1.lt)).congr fun i j => ?_
    constructor
    · rintro ⟨t, h2, q, h3⟩
      exact ⟨mn.toNat + q, by omega, Or.inl (by omega), (iterR_add R q _ i j).2 ⟨t, h2, h3⟩⟩
    · rintro ⟨k, h2, _, h3⟩
      have e : k = mn.toNat + (k - mn.toNat) := by omega
      rw [e] at h3
      obtain ⟨t, h4, h5⟩ := (iterR_add R _ _ i j).1 h3
      exact ⟨t, h4, _, h5⟩
  · unfold bgnB
    rw [if_neg (by omega)]
    have h0' : GoodAt l F (fun i j => ∃ q, q ≤ 0 ∧ iterR R q i j) g nx (g, nx) := (GoodAt.refl l F h).congr fun i j => ⟨fun e => ⟨0, Nat.le_refl _, e⟩, fun ⟨q, hq, e⟩ => by
      have e0 : q = 0 := by omega
      subst e0
      exact e⟩
    have h1 := good_opt hB h (mx - mn).toNat 0 g nx h0'
    refine (h1.comp (good_req hB mn.toNat _ _ h1.lt)).congr fun i j => ?_
    constructor
    · rintro ⟨t, h2, q, hq, h3⟩
      exact ⟨mn.toNat + q, by omega, Or.inr (by omega), (iterR_add R q _ i j).2 ⟨t, h2, h3⟩⟩
    · rintro ⟨k, h2, h2', h3⟩
      have e : k = mn.toNat + (k - mn.toNat) := by omega
      rw [e] at h3
      obtain ⟨t, h4, h5⟩ := (iterR_add R _ _ i j).1 h3
      exact ⟨t, h4, _, by omega, h5⟩
theorem good_nd {l : List Int} {F : Nat → Prop} {kd : Int} {p : Nat → Bool} {mn mx : Int} {c a : Nat → Nat → Prop} {C A : GB} {n : Nat} (hk : okN kd mn mx n) (hC : GoodB l F c C) (hA : 0 < n → GoodB l F a A) : GoodB l F (ndM l kd p mn mx c a) (ndB kd p mn mx C A) := by
  intro g nx h
  unfold ndM ndB
  split
  · exact good_eat l F p g nx
  split
  · exact good_beg l F g nx
  split
  · exact good_fin l F g nx
  split
  · rename_i e; exact hA (hk.1 e) g nx h
  split
  · rename_i e; exact good_times hC mn mx (hk.2 e).1 (hk.2 e).2.1 g nx h
  · exact hC g nx h
theorem Fo.M_row (l : List Int) (kd : Int) (p : Nat → Bool) (mn mx gp : Int) (kids rest : Fo) (i j : Nat) : (Fo.cons kd p mn mx gp kids rest).M l true i j ↔ ∃ k, ndM l kd p mn mx (kids.M l true) (kids.M l false) i k ∧ rest.M l true k j := by
  conv => lhs; unfold Fo.M
  simp
theorem Fo.M_alt (l : List Int) (kd : Int) (p : Nat → Bool) (mn mx gp : Int) (kids rest : Fo) (i j : Nat) : (Fo.cons kd p mn mx gp kids rest).M l false i j ↔ ndM l kd p mn mx (kids.M l true) (kids.M l false) i j ∨ rest.M l false i j := by
  conv => lhs; unfold Fo.M
  simp
theorem Fo.good (l : List Int) (F : Nat → Prop) : ∀ f : Fo, f.Ok → GoodB l F (f.M l true) (f.B true) ∧ (0 < f.len → GoodB l F (f.M l false) (f.B false))
  | .nil, _ => ⟨fun g nx h => (GoodAt.refl l F h).congr fun i j => by unfold Fo.M; simp, fun h => by cases h⟩
  | .cons kd p mn mx gp kids rest, ⟨h1, h2, h3⟩ => by
    obtain ⟨k1, k2⟩ := Fo.good l F kids h2
    obtain ⟨r1, r2⟩ := Fo.good l F rest h3
    have hn : GoodB l F (ndM l kd p mn mx (kids.M l true) (kids.M l false)) (ndB kd p mn mx (kids.B true) (kids.B false)) := good_nd h1 k1 k2
    refine ⟨fun g nx h => ?_, fun _ g nx h => ?_⟩
    · have h4 := r1 g nx h
      have h5 := (h4.comp (hn _ _ h4.lt)).congr fun i j => (Fo.M_row l kd p mn mx gp kids rest i j).symm
      unfold Fo.B
      simpa using h5
    · unfold Fo.B
      by_cases hz : rest.len = 0
      · simp only [Bool.false_eq_true, if_false, if_pos hz]
        refine (hn g nx h).congr fun i j => ⟨fun h => (Fo.M_alt ..).2 (Or.inl h), fun h => ((Fo.M_alt ..).1 h).elim id fun h => ?_⟩
        cases rest with
        | nil => unfold Fo.M at h; simp at h
        | cons => unfold Fo.len at hz; omega
      · have h4 := r2 (by omega) g nx h
        have h5 := (good_alt h4 (hn (rest.B false g nx).1 nx (Nat.lt_of_lt_of_le h (pre_len h4.pre)))).congr fun i j => (Fo.M_alt l kd p mn mx gp kids rest i j).symm
        simp only [Bool.false_eq_true, if_false, if_neg hz]
        exact h5
theorem Nd.good (l : List Int) (F : Nat → Prop) (n : Nd) (h : n.Ok) : GoodB l F (n.M l) n.B := good_nd h.1 (Fo.good l F _ h.2).1 (Fo.good l F _ h.2).2
/-- The automaton of a tree: an end is reached just behind what the tree matches. -/
theorem Nd.acc_iff (l : List Int) (F : Nat → Prop) (n : Nd) (h : n.Ok) (i : Nat) : (∃ k, AccN l F n.G.1 k n.G.2 i) ↔ ∃ j, n.M l i j ∧ F j := by
  have hg := Nd.good l F n h [.acc] 0 (by simp)
  have h0 : n.G.1[0]? = some .acc := (pre_at hg.pre (by simp)).trans rfl
  have ha : AgrS n.G.1 (n.B [.acc] 0).1 1 := fun x _ _ => rfl
  constructor
  · rintro ⟨k, hk⟩
    obtain ⟨j, m, _, h1, h2⟩ := hg.fw _ ha k i hk
    cases m with
    | zero => exact h2.elim
    | succ m => exact ⟨j, h1, (accN_acc h0).1 h2⟩
  · rintro ⟨j, h1, h2⟩
    exact hg.bw _ ha i j 1 h1 ((accN_acc h0).2 h2)
theorem Nd.g_acc (n : Nd) (h : n.Ok) (x : Nat) : n.G.1[x]? = some .acc ↔ x = 0 := by
  have hg := Nd.good [] (fun _ => True) n h [.acc] 0 (by simp)
  constructor
  · intro e
    by_cases hx : x = 0
    · exact hx
    · exact (hg.noacc x (by simp; omega) e).elim
  · rintro rfl
    exact (pre_at hg.pre (by simp)).trans rfl
theorem Nd.g_start (n : Nd) (h : n.Ok) : n.G.2 < n.G.1.length := (Nd.good [] (fun _ => True) n h [.acc] 0 (by simp)).lt
end Go.Proofs.YtcceiblmdjbhjaaGreatDoor
/- Automata (pure): which states are reached; what is accepted; how many states there are. -/
namespace Go.Proofs.YtcceiblmdjbhjaaGreatDoor
open Go.RowKit

/-- How many of the first n are not on the list. -/
def unm : Nat → List Nat → Nat
  | 0, _ => 0
  | n + 1, L => unm n L + (if L.contains n then 0 else 1)
theorem unm_nil : ∀ n, unm n [] = n
  | 0 => rfl
  | n + 1 => by unfold unm; rw [unm_nil n]; rfl
theorem unm_ge : ∀ (n : Nat) (L : List Nat) (x : Nat), n ≤ x → unm n (L ++ [x]) = unm n L
  | 0, _, _, _ => rfl
  | n + 1, L, x, h => by
    unfold unm
    rw [unm_ge n L x (by omega)]
    have : ((L ++ [x]).contains n) = L.contains n := by
      rw [Bool.eq_iff_iff]
      simp only [List.contains_iff_mem, List.mem_append, List.mem_singleton]
      exact ⟨fun h => h.elim id (fun e => by omega), Or.inl⟩
    rw [this]
theorem unm_add : ∀ (n : Nat) (L : List Nat) (x : Nat), x < n → L.contains x = false → unm n (L ++ [x]) + 1 = unm n L
  | 0, _, _, h, _ => by omega
  | n + 1, L, x, h, hx => by
    unfold unm
    by_cases e : x = n
    · subst e
      have e : (L ++ [x]).contains x = true := by simp
      rw [unm_ge x L x (Nat.le_refl _), hx, e]
      simp
    · have : ((L ++ [x]).contains n) = L.contains n := by
        rw [Bool.eq_iff_iff]
        simp only [List.contains_iff_mem, List.mem_append, List.mem_singleton]
        exact ⟨fun h => h.elim id (fun e' => (e e'.symm).elim), Or.inl⟩
      have ih := unm_add n L x (by omega) hx
      rw [this]
      omega

/-- The state x is put on the list, and all that it leads to without a byte. -/
def addF (G : List St) (pb pe : Bool) : Nat → Nat → List Nat → List Nat
  | 0, _, L => L
  | k + 1, x, L =>
    if L.contains x then L else
    match G[x]? with
    | some (.fork y z) => addF G pb pe k z (addF G pb pe k y (L ++ [x]))
    | some (.beg y) => if pb then addF G pb pe k y (L ++ [x]) else L ++ [x]
    | some (.fin y) => if pe then addF G pb pe k y (L ++ [x]) else L ++ [x]
    | _ => L ++ [x]
/-- What a state leads to without a byte. -/
def epsF (G : List St) (pb pe : Bool) (x : Nat) : List Nat :=
  match G[x]? with
  | some (.fork y z) => [y, z]
  | some (.beg y) => if pb then [y] else []
  | some (.fin y) => if pe then [y] else []
  | _ => []
/-- One byte on, for one state of the list before. -/
def eatF (G : List St) (pb pe : Bool) (c : Int) (A : List Nat) (x : Nat) : List Nat :=
  match G[x]? with
  | some (.eat p y) => if p c.toNat then addF G pb pe (G.length + 1) y A else A
  | _ => A
def stepF (G : List St) (pb pe : Bool) (c : Int) (L : List Nat) : List Nat := L.foldl (eatF G pb pe c) []
/-- The list at place i, then byte by byte, in a text of n bytes. -/
def runF (G : List St) (n : Nat) : Nat → List Nat → List Int → List Nat
  | _, L, [] => L
  | i, L, c :: r => runF G n (i + 1) (stepF G false (decide (i + 1 = n)) c L) r
def accF (G : List St × Nat) (l : List Int) : Bool := (runF G.1 l.length 0 (addF G.1 true (decide (0 = l.length)) (G.1.length + 1) G.2 []) l).contains 0
/-- Arrows lead to states. -/
def St.to : St → List Nat
  | .acc => []
  | .eat _ y => [y]
  | .beg y => [y]
  | .fin y => [y]
  | .fork y z => [y, z]
def ClG (G : List St) : Prop := ∀ (x : Nat) (s : St), G[x]? = some s → ∀ y ∈ s.to, y < G.length
inductive Rch (G : List St) (pb pe : Bool) : Nat → Nat → Prop
  | refl (x) : Rch G pb pe x x
  | step {x y z} : y ∈ epsF G pb pe x → Rch G pb pe y z → Rch G pb pe x z
theorem epsF_lt {G : List St} (hc : ClG G) {pb pe : Bool} {x y : Nat} (h : y ∈ epsF G pb pe x) : y < G.length := by
  unfold epsF at h
  split at h
  · rename_i e; exact hc x _ e y h
  · rename_i e
    split at h
    · exact hc x _ e y h
    · cases h
  · rename_i e
    split at h
    · exact hc x _ e y h
    · cases h
  · cases h
/-- What putting in leaves. -/
structure AddOk (G : List St) (pb pe : Bool) (x : Nat) (L L' : List Nat) : Prop where
  pre : L <+: L'
  lt : (∀ y ∈ L, y < G.length) → ∀ y ∈ L', y < G.length
  unm : unm G.length L' ≤ unm G.length L
  self : x ∈ L'
  src : ∀ y ∈ L', y ∈ L ∨ Rch G pb pe x y
  cl : ∀ y ∈ L', y ∉ L → ∀ z ∈ epsF G pb pe y, z ∈ L'
theorem mem_pre {L L' : List Nat} (h : L <+: L') {y : Nat} (hy : y ∈ L) : y ∈ L' := h.subset hy
/-- One successor after another. -/
theorem addOk_leaf {G : List St} {pb pe : Bool} {x : Nat} {L : List Nat} (hx : x < G.length) (hn : L.contains x = false) (he : epsF G pb pe x = []) : AddOk G pb pe x L (L ++ [x]) :=
  ⟨List.prefix_append _ _, fun h y hy => by rcases List.mem_append.1 hy with h1 | h1; exact h y h1; rw [List.mem_singleton.1 h1]; exact hx,
    by have := unm_add G.length L x hx hn; omega, by simp,
    fun y hy => by rcases List.mem_append.1 hy with h1 | h1; exact Or.inl h1; exact Or.inr (by rw [List.mem_singleton.1 h1]; exact .refl _),
    fun y hy hny z hz => by
      rcases List.mem_append.1 hy with h1 | h1
      · exact (hny h1).elim
      · rw [List.mem_singleton.1 h1, he] at hz; cases hz⟩
theorem addOk_one {G : List St} {pb pe : Bool} {x y : Nat} {L L' : List Nat} (hx : x < G.length) (hn : L.contains x = false) (he : epsF G pb pe x = [y]) (h : AddOk G pb pe y (L ++ [x]) L') : AddOk G pb pe x L L' := by
  refine ⟨(List.prefix_append _ _).trans h.pre, fun h1 => h.lt fun z hz => ?_, ?_, mem_pre h.pre (by simp), fun z hz => ?_, fun z hz hnz t ht => ?_⟩
  · rcases List.mem_append.1 hz with h2 | h2
    · exact h1 z h2
    · rw [List.mem_singleton.1 h2]; exact hx
  · have := unm_add G.length L x hx hn
    have := h.unm
    omega
  · rcases h.src z hz with h2 | h2
    · rcases List.mem_append.1 h2 with h3 | h3
      · exact Or.inl h3
      · exact Or.inr (by rw [List.mem_singleton.1 h3]; exact .refl _)
    · exact Or.inr (.step (by rw [he]; simp) h2)
  · by_cases hzx : z = x
    · rw [hzx, he, List.mem_singleton] at ht
      rw [ht]
      exact h.self
    · exact h.cl z hz (by simp [hnz, hzx]) t ht
theorem addOk_two {G : List St} {pb pe : Bool} {x y y2 : Nat} {L L1 L' : List Nat} (hx : x < G.length) (hn : L.contains x = false) (he : epsF G pb pe x = [y, y2]) (h : AddOk G pb pe y (L ++ [x]) L1) (h' : AddOk G pb pe y2 L1 L') : AddOk G pb pe x L L' := by
  refine ⟨((List.prefix_append _ _).trans h.pre).trans h'.pre, fun h1 => h'.lt (h.lt fun z hz => ?_), ?_, mem_pre h'.pre (mem_pre h.pre (by simp)), fun z hz => ?_, fun z hz hnz t ht => ?_⟩
  · rcases List.mem_append.1 hz with h2 | h2
    · exact h1 z h2
    · rw [List.mem_singleton.1 h2]; exact hx
  · have := unm_add G.length L x hx hn
    have := h.unm
    have := h'.unm
    omega
  · rcases h'.src z hz with h0 | h0
    · rcases h.src z h0 with h2 | h2
      · rcases List.mem_append.1 h2 with h3 | h3
        · exact Or.inl h3
        · exact Or.inr (by rw [List.mem_singleton.1 h3]; exact .refl _)
      · exact Or.inr (.step (by rw [he]; simp) h2)
    · exact Or.inr (.step (by rw [he]; simp) h0)
  · by_cases hzx : z = x
    · rw [hzx, he] at ht
      rcases List.mem_cons.1 ht with e | e
      · rw [e]; exact mem_pre h'.pre h.self
      · rw [List.mem_singleton.1 e]; exact h'.self
    · by_cases hz1 : z ∈ L1
      · exact mem_pre h'.pre (h.cl z hz1 (by simp [hnz, hzx]) t ht)
      · exact h'.cl z hz hz1 t ht
theorem addF_ok {G : List St} (hc : ClG G) (pb pe : Bool) : ∀ k x L, unm G.length L < k → x < G.length → L.contains x = false → AddOk G pb pe x L (addF G pb pe k x L) := by
  intro k
  induction k with
  | zero => intro x L h; omega
  | succ k ih =>
    intro x L h hx hn
    have hu := unm_add G.length L x hx hn
    -- in any case: as if it were put in
    have any : ∀ y L, unm G.length L < k → y < G.length → AddOk G pb pe y L (addF G pb pe k y L) := by
      intro y L h1 h2
      by_cases h3 : L.contains y
      · cases k with
        | zero => omega
        | succ k =>
          have e : addF G pb pe (k + 1) y L = L := by unfold addF; rw [if_pos h3]
          rw [e]
          exact ⟨List.prefix_refl _, fun h => h, Nat.le_refl _, List.contains_iff_mem.1 h3, fun _ h => Or.inl h, fun z hz hnz => (hnz hz).elim⟩
      · exact ih y L h1 h2 (by simpa using h3)
    unfold addF
    rw [if_neg (by rw [hn]; decide)]
    have hl : ∀ y ∈ epsF G pb pe x, y < G.length := fun y hy => epsF_lt hc hy
    split <;> rename_i e
    · rename_i y z
      have he : epsF G pb pe x = [y, z] := by unfold epsF; rw [e]
      rw [he] at hl
      have h1 := any y (L ++ [x]) (by omega) (hl y (by simp))
      exact addOk_two hx hn he h1 (any z _ (by have := h1.unm; omega) (hl z (by simp)))
    · rename_i y
      split <;> rename_i hp
      · have he : epsF G pb pe x = [y] := by unfold epsF; rw [e]; exact if_pos hp
        rw [he] at hl
        exact addOk_one hx hn he (any y _ (by omega) (hl y (by simp)))
      · exact addOk_leaf hx hn (by unfold epsF; rw [e]; exact if_neg hp)
    · rename_i y
      split <;> rename_i hp
      · have he : epsF G pb pe x = [y] := by unfold epsF; rw [e]; exact if_pos hp
        rw [he] at hl
        exact addOk_one hx hn he (any y _ (by omega) (hl y (by simp)))
      · exact addOk_leaf hx hn (by unfold epsF; rw [e]; exact if_neg hp)
    · rename_i h1 h2
      refine addOk_leaf hx hn ?_
      unfold epsF
      split
      · rename_i e'; exact (h1 _ _ e').elim
      · rename_i e'; exact (h2 _ e').elim
      · rename_i e'; exact (e _ e').elim
      · rfl
theorem addF_any {G : List St} (hc : ClG G) (pb pe : Bool) (k x : Nat) (L : List Nat) (h : unm G.length L < k) (hx : x < G.length) : AddOk G pb pe x L (addF G pb pe k x L) := by
  by_cases h3 : L.contains x
  · cases k with
    | zero => omega
    | succ k =>
      have e : addF G pb pe (k + 1) x L = L := by unfold addF; rw [if_pos h3]
      rw [e]
      exact ⟨List.prefix_refl _, fun h => h, Nat.le_refl _, List.contains_iff_mem.1 h3, fun _ h => Or.inl h, fun z hz hnz => (hnz hz).elim⟩
  · exact addF_ok hc pb pe k x L h hx (by simpa using h3)
theorem unm_le (n : Nat) (L : List Nat) : unm n L ≤ n := by
  induction n with
  | zero => exact Nat.le_refl _
  | succ n ih => unfold unm; split <;> omega

/-! ### Arrows of what is built -/
theorem clg_put {g : List St} {s : St} (h : ClG g) (hs : ∀ y ∈ s.to, y < g.length + 1) : ClG (g ++ [s]) := by
  intro x t ht y hy
  rw [List.length_append, List.length_singleton]
  by_cases hx : x < g.length
  · rw [List.getElem?_append_left hx] at ht
    have := h x t ht y hy
    omega
  · rcases Nat.lt_or_eq_of_le (Nat.le_of_not_lt hx) with h2 | h2
    · rw [List.getElem?_eq_none (by simp; omega)] at ht; cases ht
    · subst h2
      rw [List.getElem?_append_right (Nat.le_refl _), Nat.sub_self] at ht
      have e : s = t := Option.some.inj ht
      subst e
      exact hs y hy
theorem clg_set {g : List St} {s : St} {i : Nat} (h : ClG g) (hs : ∀ y ∈ s.to, y < g.length) : ClG (g.set i s) := by
  intro x t ht y hy
  rw [List.length_set]
  by_cases e : i = x
  · subst e
    by_cases hi : i < g.length
    · rw [List.getElem?_set_self hi] at ht
      have e : s = t := Option.some.inj ht
      subst e
      exact hs y hy
    · rw [List.getElem?_eq_none (by simp; omega)] at ht; cases ht
  · rw [List.getElem?_set_ne e] at ht
    exact h x t ht y hy
def ClB (B : GB) : Prop := ∀ g nx, nx < g.length → ClG g → ClG (B g nx).1
def Gd (R : Nat → Nat → Prop) (B : GB) : Prop := GoodB [] (fun _ => True) R B
theorem cl_req {R : Nat → Nat → Prop} {B : GB} (hB : Gd R B) (cB : ClB B) : ∀ k, ClB (reqB B k)
  | 0 => fun g nx _ h => h
  | k + 1 => fun g nx h hc => by
    unfold reqB
    split
    · exact cB g nx h hc
    · exact cl_req hB cB k _ _ (hB g nx h).lt (cB g nx h hc)
theorem cl_opt {R : Nat → Nat → Prop} {B : GB} (hB : Gd R B) (cB : ClB B) (nx : Nat) : ∀ k g s, nx < g.length → s < g.length → ClG g → ClG (optB B nx k g s).1
  | 0, _, _, _, _, h => h
  | k + 1, g, s, hn, hs, hc => by
    unfold optB
    have h1 := hB g s hs
    have hl := pre_len h1.pre
    exact cl_opt hB cB nx k _ _ (by simp; omega) (by simp) (clg_put (cB g s hs hc) fun y hy => by
      rcases List.mem_cons.1 hy with e | e
      · rw [e]; have := h1.lt; omega
      · rw [List.mem_singleton.1 e]; omega)
theorem cl_star {R : Nat → Nat → Prop} {B : GB} (hB : Gd R B) (cB : ClB B) : ClB (starB B) := by
  intro g nx h hc
  have h0 : ClG (g ++ [.fork 0 nx]) := clg_put hc fun y hy => by
    rcases List.mem_cons.1 hy with e | e
    · omega
    · rw [List.mem_singleton.1 e]; omega
  have h1 := hB (g ++ [.fork 0 nx]) g.length (by simp)
  have hl := pre_len h1.pre
  rw [List.length_append, List.length_singleton] at hl
  exact clg_set (cB _ _ (by simp) h0) fun y hy => by
    rcases List.mem_cons.1 hy with e | e
    · rw [e]; exact h1.lt
    · rw [List.mem_singleton.1 e]; omega
theorem cl_times {R : Nat → Nat → Prop} {B : GB} (hB : Gd R B) (cB : ClB B) (mn mx : Int) (h0 : 0 ≤ mn) (hx : mx = -1 ∨ mn ≤ mx) : ClB (timesB B mn mx) := by
  intro g nx h hc
  unfold timesB
  rcases hx with hx | hx
  · rw [optB_neg _ _ _ _ _ _ (by omega)]
    unfold bgnB
    rw [if_pos hx]
    exact cl_req hB cB _ _ _ (good_star hB g nx).lt (cl_star hB cB g nx h hc)
  · unfold bgnB
    rw [if_neg (by omega)]
    have h0' : GoodAt [] (fun _ => True) (fun i j => ∃ q, q ≤ 0 ∧ iterR R q i j) g nx (g, nx) := (GoodAt.refl _ _ h).congr fun i j => ⟨fun e => ⟨0, Nat.le_refl _, e⟩, fun ⟨q, hq, e⟩ => by
      have e0 : q = 0 := by omega
      subst e0
      exact e⟩
    exact cl_req hB cB _ _ _ (good_opt hB h (mx - mn).toNat 0 g nx h0').lt (cl_opt hB cB nx _ _ _ h h hc)
theorem cl_nd {kd : Int} {p : Nat → Bool} {mn mx : Int} {c : Nat → Nat → Prop} {C A : GB} {n : Nat} (hk : okN kd mn mx n) (hC : Gd c C) (cC : ClB C) (cA : 0 < n → ClB A) : ClB (ndB kd p mn mx C A) := by
  intro g nx h hc
  unfold ndB
  have one : ∀ s : St, s.to = [nx] → ClG (g ++ [s]) := fun s hs => clg_put hc fun y hy => by rw [hs, List.mem_singleton] at hy; omega
  split
  · exact one _ rfl
  split
  · exact one _ rfl
  split
  · exact one _ rfl
  split
  · rename_i e; exact cA (hk.1 e) g nx h hc
  split
  · rename_i e; exact cl_times hC cC mn mx (hk.2 e).1 (hk.2 e).2.1 g nx h hc
  · exact cC g nx h hc
theorem Fo.clB : ∀ f : Fo, f.Ok → ClB (f.B true) ∧ (0 < f.len → ClB (f.B false))
  | .nil, _ => ⟨fun _ _ _ h => h, fun h => by cases h⟩
  | .cons kd p mn mx gp kids rest, ⟨h1, h2, h3⟩ => by
    obtain ⟨k1, k2⟩ := Fo.clB kids h2
    obtain ⟨r1, r2⟩ := Fo.clB rest h3
    obtain ⟨g1, g2⟩ := Fo.good [] (fun _ => True) kids h2
    obtain ⟨q1, q2⟩ := Fo.good [] (fun _ => True) rest h3
    have gn : Gd _ (ndB kd p mn mx (kids.B true) (kids.B false)) := good_nd h1 g1 g2
    have hn : ClB (ndB kd p mn mx (kids.B true) (kids.B false)) := cl_nd h1 g1 k1 k2
    refine ⟨fun g nx h hc => ?_, fun _ g nx h hc => ?_⟩
    · have h4 := hn _ _ (q1 g nx h).lt (r1 g nx h hc)
      unfold Fo.B
      simpa using h4
    · unfold Fo.B
      by_cases hz : rest.len = 0
      · simp only [Bool.false_eq_true, if_false, if_pos hz]
        exact hn g nx h hc
      · simp only [Bool.false_eq_true, if_false, if_neg hz]
        have hr := q2 (by omega) g nx h
        have hx : nx < (rest.B false g nx).1.length := Nat.lt_of_lt_of_le h (pre_len hr.pre)
        have hq := gn (rest.B false g nx).1 nx hx
        have hl := pre_len hq.pre
        exact clg_put (hn _ _ hx (r2 (by omega) g nx h hc)) fun y hy => by
          rcases List.mem_cons.1 hy with e | e
          · rw [e]; have := hq.lt; omega
          · rw [List.mem_singleton.1 e]; have := hr.lt; omega
theorem Nd.clG (n : Nd) (h : n.Ok) : ClG n.G.1 :=
  cl_nd h.1 (Fo.good [] (fun _ => True) _ h.2).1 (Fo.clB _ h.2).1 (Fo.clB _ h.2).2 [.acc] 0 (by simp) fun x s hs y hy => by
    cases x with
    | zero => have e : St.acc = s := Option.some.inj hs; subst e; cases hy
    | succ x => simp at hs

/-! ### What is reached -/
theorem acc_eps {l : List Int} {F : Nat → Prop} {G : List St} {i k y z : Nat} (hz : z ∈ epsF G (decide (i = 0)) (decide (i = l.length)) y) (h : AccN l F G k z i) : AccN l F G (k + 1) y i := by
  unfold epsF at hz
  split at hz
  · rename_i e
    rcases List.mem_cons.1 hz with e2 | e2
    · rw [e2] at h; exact (accN_fork e).2 (Or.inl h)
    · rw [List.mem_singleton.1 e2] at h; exact (accN_fork e).2 (Or.inr h)
  · rename_i e
    split at hz
    · rename_i hp
      rw [List.mem_singleton.1 hz] at h
      exact (accN_beg e).2 ⟨of_decide_eq_true hp, h⟩
    · cases hz
  · rename_i e
    split at hz
    · rename_i hp
      rw [List.mem_singleton.1 hz] at h
      exact (accN_fin e).2 ⟨of_decide_eq_true hp, h⟩
    · cases hz
  · cases hz
theorem acc_rch {l : List Int} {F : Nat → Prop} {G : List St} {i x y : Nat} (hr : Rch G (decide (i = 0)) (decide (i = l.length)) x y) : ∀ k, AccN l F G k y i → ∃ k', AccN l F G k' x i := by
  induction hr with
  | refl => exact fun k h => ⟨k, h⟩
  | step hz _ ih =>
    intro k h
    obtain ⟨k', h'⟩ := ih k h
    exact ⟨_, acc_eps hz h'⟩
theorem acc_place {l : List Int} {F : Nat → Prop} {G : List St} : ∀ (k x i : Nat), AccN l F G k x i → ∃ j, i ≤ j ∧ F j
  | 0, _, _, h => h.elim
  | k + 1, x, i, h => by
    unfold AccN at h
    split at h
    · exact ⟨i, Nat.le_refl _, h⟩
    · obtain ⟨j, h1, h2⟩ := acc_place k _ _ h.2.2; exact ⟨j, by omega, h2⟩
    · exact acc_place k _ _ h.2
    · exact acc_place k _ _ h.2
    · exact h.elim (acc_place k _ _) (acc_place k _ _)
    · exact h.elim
/-- From a list that is closed: an end here, or a byte on. -/
theorem accN_out {l : List Int} {F : Nat → Prop} {G : List St} {i : Nat} {L : List Nat} (hcl : ∀ y ∈ L, ∀ z ∈ epsF G (decide (i = 0)) (decide (i = l.length)) y, z ∈ L) : ∀ (k x : Nat), x ∈ L → AccN l F G k x i →
    (∃ y, y ∈ L ∧ G[y]? = some .acc ∧ F i) ∨ (∃ y p y' k', y ∈ L ∧ G[y]? = some (.eat p y') ∧ i < l.length ∧ p (l.getD i 0).toNat = true ∧ AccN l F G k' y' (i + 1))
  | 0, _, _, h => h.elim
  | k + 1, x, hx, h => by
    unfold AccN at h
    split at h <;> rename_i e
    · exact Or.inl ⟨x, hx, e, h⟩
    · exact Or.inr ⟨x, _, _, k, hx, e, h.1, h.2.1, h.2.2⟩
    · refine accN_out hcl k _ (hcl x hx _ ?_) h.2
      unfold epsF; rw [e]; simp [h.1]
    · refine accN_out hcl k _ (hcl x hx _ ?_) h.2
      unfold epsF; rw [e]; simp [h.1]
    · rcases h with h | h
      · exact accN_out hcl k _ (hcl x hx _ (by unfold epsF; rw [e]; simp)) h
      · exact accN_out hcl k _ (hcl x hx _ (by unfold epsF; rw [e]; simp)) h
    · exact h.elim
/-- The list at place i, of a match that begins in state x0 at place a. -/
structure InvL (l : List Int) (F : Nat → Prop) (G : List St) (x0 a i : Nat) (L : List Nat) : Prop where
  lt : ∀ y ∈ L, y < G.length
  cl : ∀ y ∈ L, ∀ z ∈ epsF G (decide (i = 0)) (decide (i = l.length)) y, z ∈ L
  iff : (∃ k, AccN l F G k x0 a) ↔ ∃ x, x ∈ L ∧ ∃ k, AccN l F G k x i
theorem inv_enter {l : List Int} {F : Nat → Prop} {G : List St} (hc : ClG G) {x0 a : Nat} (hx : x0 < G.length) : InvL l F G x0 a a (addF G (decide (a = 0)) (decide (a = l.length)) (G.length + 1) x0 []) := by
  have h := addF_any hc (decide (a = 0)) (decide (a = l.length)) (G.length + 1) x0 [] (by rw [unm_nil]; omega) hx
  refine ⟨h.lt (fun y hy => by cases hy), fun y hy => h.cl y hy (by simp), fun ⟨k, hk⟩ => ⟨x0, h.self, k, hk⟩, fun ⟨x, hx, k, hk⟩ => ?_⟩
  rcases h.src x hx with h1 | h1
  · cases h1
  · exact acc_rch h1 k hk
/-- What following a byte has put in so far. -/
structure EatOk (G : List St) (pb pe : Bool) (c : Int) (L A : List Nat) : Prop where
  lt : ∀ y ∈ A, y < G.length
  cl : ∀ y ∈ A, ∀ z ∈ epsF G pb pe y, z ∈ A
  src : ∀ y ∈ A, ∃ x p x', x ∈ L ∧ G[x]? = some (.eat p x') ∧ p c.toNat = true ∧ Rch G pb pe x' y
  all : ∀ x ∈ L, ∀ p x', G[x]? = some (.eat p x') → p c.toNat = true → x' ∈ A
theorem eat_ok {G : List St} (hc : ClG G) {pb pe : Bool} {c : Int} {L A : List Nat} {x : Nat} (h : EatOk G pb pe c L A) : EatOk G pb pe c (L ++ [x]) (eatF G pb pe c A x) := by
  have stay : (∀ p x', G[x]? = some (.eat p x') → ¬ p c.toNat = true) → EatOk G pb pe c (L ++ [x]) A := fun hn =>
    ⟨h.lt, h.cl, fun y hy => by obtain ⟨z, p, z', h1, h2⟩ := h.src y hy; exact ⟨z, p, z', List.mem_append_left _ h1, h2⟩, fun z hz p z' e hp => by
      rcases List.mem_append.1 hz with h1 | h1
      · exact h.all z h1 p z' e hp
      · rw [List.mem_singleton.1 h1] at e; exact (hn p z' e hp).elim⟩
  unfold eatF
  split
  · rename_i p x' e
    split
    · rename_i hp
      have hx' : x' < G.length := hc x _ e x' (by simp [St.to])
      have ha := addF_any hc pb pe (G.length + 1) x' A (by have := unm_le G.length A; omega) hx'
      refine ⟨ha.lt h.lt, fun y hy z hz => ?_, fun y hy => ?_, fun z hz q z' e' hq => ?_⟩
      · by_cases hyA : y ∈ A
        · exact mem_pre ha.pre (h.cl y hyA z hz)
        · exact ha.cl y hy hyA z hz
      · rcases ha.src y hy with h1 | h1
        · obtain ⟨z, p, z', h1, h2⟩ := h.src y h1; exact ⟨z, p, z', List.mem_append_left _ h1, h2⟩
        · exact ⟨x, p, x', by simp, e, hp, h1⟩
      · rcases List.mem_append.1 hz with h1 | h1
        · exact mem_pre ha.pre (h.all z h1 q z' e' hq)
        · rw [List.mem_singleton.1 h1, e] at e'
          obtain ⟨rfl, rfl⟩ := St.eat.inj (Option.some.inj e')
          exact ha.self
    · rename_i hp
      exact stay fun q z e' => by rw [e] at e'; obtain ⟨rfl, rfl⟩ := St.eat.inj (Option.some.inj e'); exact hp
  · rename_i hn
    exact stay fun q z e' => (hn q z e').elim
theorem eat_fold {G : List St} (hc : ClG G) {pb pe : Bool} {c : Int} : ∀ (M L A : List Nat), EatOk G pb pe c L A → EatOk G pb pe c (L ++ M) (M.foldl (eatF G pb pe c) A)
  | [], L, A, h => by rw [List.append_nil]; exact h
  | x :: M, L, A, h => by
    have := eat_fold hc M (L ++ [x]) _ (eat_ok hc (x := x) h)
    rw [List.append_assoc] at this
    exact this
theorem step_ok {G : List St} (hc : ClG G) (pb pe : Bool) (c : Int) (L : List Nat) : EatOk G pb pe c L (stepF G pb pe c L) := by
  have := eat_fold hc (pb := pb) (pe := pe) (c := c) L [] [] ⟨fun _ h => (by cases h), fun _ h => (by cases h), fun _ h => (by cases h), fun _ h => (by cases h)⟩
  rw [List.nil_append] at this
  exact this
theorem inv_step {l : List Int} {F : Nat → Prop} {G : List St} (hc : ClG G) {x0 a i : Nat} {L : List Nat} (h : InvL l F G x0 a i L) (hi : i < l.length) (hF : ¬ F i) : InvL l F G x0 a (i + 1) (stepF G false (decide (i + 1 = l.length)) (l.getD i 0) L) := by
  have hs := step_ok hc false (decide (i + 1 = l.length)) (l.getD i 0) L
  have e0 : decide (i + 1 = 0) = false := by simp
  refine ⟨hs.lt, by rw [e0]; exact hs.cl, fun hk => ?_, fun ⟨x, hx, k, hk⟩ => ?_⟩
  · obtain ⟨x, hx, k, hk⟩ := h.iff.1 hk
    rcases accN_out h.cl k x hx hk with ⟨y, _, _, h1⟩ | ⟨y, p, y', k', h1, h2, _, h3, h4⟩
    · exact (hF h1).elim
    · exact ⟨y', hs.all y h1 p y' h2 h3, k', h4⟩
  · obtain ⟨y, p, y', h1, h2, h3, h4⟩ := hs.src x hx
    rw [← e0] at h4
    obtain ⟨k', hk'⟩ := acc_rch h4 k hk
    exact h.iff.2 ⟨y, h1, k' + 1, (accN_eat h2).2 ⟨hi, h3, hk'⟩⟩
theorem inv_run {l : List Int} {F : Nat → Prop} {G : List St} (hc : ClG G) {x0 a : Nat} (hF : ∀ i, i < l.length → ¬ F i) : ∀ (r : List Int) (i : Nat) (L : List Nat), r = l.drop i → i ≤ l.length → InvL l F G x0 a i L → InvL l F G x0 a l.length (runF G l.length i L r)
  | [], i, L, e, hi, h => by
    have e2 : i = l.length := by
      have := congrArg List.length e
      rw [List.length_drop] at this
      simp at this
      omega
    subst e2
    exact h
  | c :: r, i, L, e, hi, h => by
    have hlt : i < l.length := by
      have := congrArg List.length e
      rw [List.length_drop] at this
      simp at this
      omega
    have e3 : c :: r = l[i] :: l.drop (i + 1) := by rw [e]; exact List.drop_eq_getElem_cons hlt
    have e4 : c = l.getD i 0 := by rw [(List.cons.inj e3).1, List.getD_eq_getElem?_getD, List.getElem?_eq_getElem hlt]; rfl
    unfold runF
    rw [e4]
    exact inv_run hc hF r (i + 1) _ (List.cons.inj e3).2 hlt (inv_step hc h hlt (hF i hlt))
/-- The end's state on the list at place i. -/
theorem inv_zero {l : List Int} {G : List St} {x0 a i : Nat} {L : List Nat} (h0 : ∀ x, G[x]? = some .acc ↔ x = 0) (h : InvL l (fun j => j = i) G x0 a i L) : 0 ∈ L ↔ ∃ k, AccN l (fun j => j = i) G k x0 a := by
  constructor
  · exact fun h1 => h.iff.2 ⟨0, h1, 1, (accN_acc ((h0 0).2 rfl)).2 rfl⟩
  · intro h1
    obtain ⟨x, hx, k, hk⟩ := h.iff.1 h1
    rcases accN_out h.cl k x hx hk with ⟨y, h2, h3, _⟩ | ⟨y, p, y', k', _, _, _, _, h4⟩
    · rw [(h0 y).1 h3] at h2; exact h2
    · obtain ⟨j, h5, h6⟩ := acc_place _ _ _ h4
      omega
/-- THE AUTOMATON ACCEPTS JUST WHAT THE TREE MATCHES. -/
theorem accF_iff (n : Nd) (h : n.Ok) (l : List Int) : accF n.G l = true ↔ n.M l 0 l.length := by
  have hc := n.clG h
  have h1 : InvL l (fun j => j = l.length) n.G.1 n.G.2 0 l.length (runF n.G.1 l.length 0 (addF n.G.1 true (decide (0 = l.length)) (n.G.1.length + 1) n.G.2 []) l) :=
    inv_run hc (fun i hi e => by omega) l 0 _ (by simp) (Nat.zero_le _) (inv_enter hc (n.g_start h))
  unfold accF
  rw [List.contains_iff_mem, inv_zero (n.g_acc h) h1, n.acc_iff l _ h 0]
  exact ⟨fun ⟨j, h2, h3⟩ => h3 ▸ h2, fun h2 => ⟨_, h2, rfl⟩⟩
end Go.Proofs.YtcceiblmdjbhjaaGreatDoor
/- Reading a regular expression always tells; what it tells (pure). -/
namespace Go.Proofs.YtcceiblmdjbhjaaGreatDoor
open Go.RowKit

theorem rdR_re (cf : ByteArray → (Nat → Bool) × Bool) (l : List Int) (ext : Bool) (n : Nat) (bs : List Nd) (k g o : Nat) : rdR cf l ext (n + 1) (.re bs) k g o =
    match rdR cf l ext n (.br []) k g o with
    | some (.ok b k1 g1) => if (sg cf l ext k1).kd = 4 then rdR cf l ext n (.re (bs ++ [b])) (sg cf l ext k1).nx g1 o else some (.ok (joinN 5 (bs ++ [b])) k1 g1)
    | r => r := by first | (rw [rdR]; done) | (rw [rdR]; rfl)
theorem rdR_br (cf : ByteArray → (Nat → Bool) × Bool) (l : List Int) (ext : Bool) (n : Nat) (items : List Nd) (k g o : Nat) : rdR cf l ext (n + 1) (.br items) k g o =
    if endsB (sg cf l ext k).kd = true then
      (if items = [] then some (.bad (if ext = true ∧ (sg cf l ext k).kd = 3 ∧ o = 0 then 9 else 3) k) else some (.ok (joinN 4 items) k g))
    else if isByt ext (sg cf l ext k) (sg cf l ext (sg cf l ext k).nx).kd items = true then rdR cf l ext n (.br (items ++ [setN (mem (sg cf l ext k).tx)])) (sg cf l ext k).nx g o
    else if (sg cf l ext k).kd = 1 then
      (if endsP items = false then some (.bad 3 k)
      else match (sg cf l ext k).er with
        | some (c, p) => some (.bad c p)
        | none => rdR cf l ext n (.br (repL items (sg cf l ext k).lo (sg cf l ext k).hi)) (sg cf l ext k).nx g o)
    else if (sg cf l ext k).kd = 2 then
      (if g = 9 then some (.bad 5 k)
      else match rdR cf l ext n (.re []) (sg cf l ext k).nx (g + 1) (o + 1) with
        | some (.ok t k1 g1) => if (sg cf l ext k1).kd = 3 then rdR cf l ext n (.br (items ++ [grpN (g + 1 : Nat) t])) (sg cf l ext k1).nx g1 o else some (.bad 9 k1)
        | r => r)
    else match (sg cf l ext k).er with
      | some (c, p) => some (.bad c p)
      | none => rdR cf l ext n (.br (items ++ [(sg cf l ext k).nd])) (sg cf l ext k).nx g o := by first | (rw [rdR]; done) | (rw [rdR]; rfl)

/-- What holds of a result at any place, holds: the one induction over the reader. R: of a result; S: of what a mode begins with. -/
theorem rdR_ind (cf : ByteArray → (Nat → Bool) × Bool) (l : List Int) (ext : Bool) (P : RM → Nat → Nat → Nat → RR → Prop)
    (re_bad : ∀ bs k g o c p, P (.br []) k g o (.bad c p) → P (.re bs) k g o (.bad c p))
    (re_on : ∀ bs k g o b k1 g1 r, P (.br []) k g o (.ok b k1 g1) → (sg cf l ext k1).kd = 4 → P (.re (bs ++ [b])) (sg cf l ext k1).nx g1 o r → P (.re bs) k g o r)
    (re_end : ∀ bs k g o b k1 g1, P (.br []) k g o (.ok b k1 g1) → (sg cf l ext k1).kd ≠ 4 → P (.re bs) k g o (.ok (joinN 5 (bs ++ [b])) k1 g1))
    (br_nil : ∀ k g o, endsB (sg cf l ext k).kd = true → P (.br []) k g o (.bad (if ext = true ∧ (sg cf l ext k).kd = 3 ∧ o = 0 then 9 else 3) k))
    (br_end : ∀ items k g o, endsB (sg cf l ext k).kd = true → items ≠ [] → P (.br items) k g o (.ok (joinN 4 items) k g))
    (br_byt : ∀ items k g o r, endsB (sg cf l ext k).kd = false → isByt ext (sg cf l ext k) (sg cf l ext (sg cf l ext k).nx).kd items = true → P (.br (items ++ [setN (mem (sg cf l ext k).tx)])) (sg cf l ext k).nx g o r → P (.br items) k g o r)
    (br_rep0 : ∀ items k g o, (sg cf l ext k).kd = 1 → endsP items = false → P (.br items) k g o (.bad 3 k))
    (br_rep1 : ∀ items k g o c p, (sg cf l ext k).kd = 1 → endsP items = true → (sg cf l ext k).er = some (c, p) → P (.br items) k g o (.bad c p))
    (br_rep2 : ∀ items k g o r, (sg cf l ext k).kd = 1 → endsP items = true → (sg cf l ext k).er = none → P (.br (repL items (sg cf l ext k).lo (sg cf l ext k).hi)) (sg cf l ext k).nx g o r → P (.br items) k g o r)
    (br_many : ∀ items k g o, (sg cf l ext k).kd = 2 → g = 9 → P (.br items) k g o (.bad 5 k))
    (br_gbad : ∀ items k g o c p, (sg cf l ext k).kd = 2 → g ≠ 9 → P (.re []) (sg cf l ext k).nx (g + 1) (o + 1) (.bad c p) → P (.br items) k g o (.bad c p))
    (br_gno : ∀ items k g o t k1 g1, (sg cf l ext k).kd = 2 → g ≠ 9 → P (.re []) (sg cf l ext k).nx (g + 1) (o + 1) (.ok t k1 g1) → (sg cf l ext k1).kd ≠ 3 → P (.br items) k g o (.bad 9 k1))
    (br_gyes : ∀ items k g o t k1 g1 r, (sg cf l ext k).kd = 2 → g ≠ 9 → P (.re []) (sg cf l ext k).nx (g + 1) (o + 1) (.ok t k1 g1) → (sg cf l ext k1).kd = 3 → P (.br (items ++ [grpN (g + 1 : Nat) t])) (sg cf l ext k1).nx g1 o r → P (.br items) k g o r)
    (br_err : ∀ items k g o c p, endsB (sg cf l ext k).kd = false → (sg cf l ext k).kd ≠ 1 → (sg cf l ext k).kd ≠ 2 → (sg cf l ext k).er = some (c, p) → P (.br items) k g o (.bad c p))
    (br_item : ∀ items k g o r, endsB (sg cf l ext k).kd = false → (sg cf l ext k).kd ≠ 1 → (sg cf l ext k).kd ≠ 2 → (sg cf l ext k).er = none → isByt ext (sg cf l ext k) (sg cf l ext (sg cf l ext k).nx).kd items = false → P (.br (items ++ [(sg cf l ext k).nd])) (sg cf l ext k).nx g o r → P (.br items) k g o r) :
    ∀ n md k g o r, rdR cf l ext n md k g o = some r → P md k g o r := by
  intro n
  induction n with
  | zero => intro md k g o r h; simp [rdR] at h
  | succ n ih =>
    intro md k g o r h
    cases md with
    | re bs =>
      rw [rdR_re] at h
      cases hb : rdR cf l ext n (.br []) k g o with
      | none => rw [hb] at h; cases h
      | some x =>
        rw [hb] at h
        have hp := ih _ _ _ _ _ hb
        cases x with
        | bad c p =>
          simp only [Option.some.injEq] at h
          subst h
          exact re_bad _ _ _ _ _ _ hp
        | ok b k1 g1 =>
          dsimp only at h
          by_cases h4 : (sg cf l ext k1).kd = 4
          · rw [if_pos h4] at h
            exact re_on _ _ _ _ _ _ _ _ hp h4 (ih _ _ _ _ _ h)
          · rw [if_neg h4] at h
            simp only [Option.some.injEq] at h
            subst h
            exact re_end _ _ _ _ _ _ _ hp h4
    | br items =>
      rw [rdR_br] at h
      by_cases he : endsB (sg cf l ext k).kd = true
      · rw [if_pos he] at h
        by_cases hi : items = []
        · rw [if_pos hi] at h
          simp only [Option.some.injEq] at h
          subst h
          subst hi
          exact br_nil _ _ _ he
        · rw [if_neg hi] at h
          simp only [Option.some.injEq] at h
          subst h
          exact br_end _ _ _ _ he hi
      rw [if_neg he] at h
      have he' : endsB (sg cf l ext k).kd = false := by simpa using he
      by_cases hb : isByt ext (sg cf l ext k) (sg cf l ext (sg cf l ext k).nx).kd items = true
      · rw [if_pos hb] at h
        exact br_byt _ _ _ _ _ he' hb (ih _ _ _ _ _ h)
      rw [if_neg hb] at h
      by_cases h1 : (sg cf l ext k).kd = 1
      · rw [if_pos h1] at h
        by_cases hp : endsP items = false
        · rw [if_pos hp] at h
          simp only [Option.some.injEq] at h
          subst h
          exact br_rep0 _ _ _ _ h1 hp
        · rw [if_neg hp] at h
          have hp' : endsP items = true := by simpa using hp
          cases hx : (sg cf l ext k).er with
          | some cp =>
            obtain ⟨c, p⟩ := cp
            rw [hx] at h
            simp only [Option.some.injEq] at h
            subst h
            exact br_rep1 _ _ _ _ _ _ h1 hp' hx
          | none =>
            rw [hx] at h
            exact br_rep2 _ _ _ _ _ h1 hp' hx (ih _ _ _ _ _ h)
      rw [if_neg h1] at h
      by_cases h2 : (sg cf l ext k).kd = 2
      · rw [if_pos h2] at h
        by_cases h9 : g = 9
        · rw [if_pos h9] at h
          simp only [Option.some.injEq] at h
          subst h
          exact br_many _ _ _ _ h2 h9
        · rw [if_neg h9] at h
          cases hr : rdR cf l ext n (.re []) (sg cf l ext k).nx (g + 1) (o + 1) with
          | none => rw [hr] at h; cases h
          | some x =>
            rw [hr] at h
            have hp := ih _ _ _ _ _ hr
            cases x with
            | bad c p =>
              simp only [Option.some.injEq] at h
              subst h
              exact br_gbad _ _ _ _ _ _ h2 h9 hp
            | ok t k1 g1 =>
              dsimp only at h
              by_cases h3 : (sg cf l ext k1).kd = 3
              · rw [if_pos h3] at h
                exact br_gyes _ _ _ _ _ _ _ _ h2 h9 hp h3 (ih _ _ _ _ _ h)
              · rw [if_neg h3] at h
                simp only [Option.some.injEq] at h
                subst h
                exact br_gno _ _ _ _ _ _ _ h2 h9 hp h3
      rw [if_neg h2] at h
      cases hx : (sg cf l ext k).er with
      | some cp =>
        obtain ⟨c, p⟩ := cp
        rw [hx] at h
        simp only [Option.some.injEq] at h
        subst h
        exact br_err _ _ _ _ _ _ he' h1 h2 hx
      | none =>
        rw [hx] at h
        exact br_item _ _ _ _ _ he' h1 h2 hx (by simpa using hb) (ih _ _ _ _ _ h)

theorem not_end {kd : Nat} (h : endsB kd = false) : kd ≠ 3 ∧ kd ≠ 4 ∧ kd ≠ 5 := by
  unfold endsB at h
  simp only [Bool.or_eq_false_iff, beq_eq_false_iff_ne] at h
  exact ⟨h.1.1, h.1.2, h.2⟩
/-- Places only rise. -/
theorem rdR_le (cf : ByteArray → (Nat → Bool) × Bool) (l : List Int) (ext : Bool) (n : Nat) (md : RM) (k g o : Nat) (t : Nd) (k1 g1 : Nat) (h : rdR cf l ext n md k g o = some (.ok t k1 g1)) (hk : k ≤ l.length) : k ≤ k1 ∧ k1 ≤ l.length := by
  have key := rdR_ind cf l ext (fun _ k _ _ r => k ≤ l.length → ∀ t k1 g1, r = .ok t k1 g1 → k ≤ k1 ∧ k1 ≤ l.length) ?_ ?_ ?_ ?_ ?_ ?_ ?_ ?_ ?_ ?_ ?_ ?_ ?_ ?_ ?_ n md k g o _ h
  · exact key hk t k1 g1 rfl
  · intro bs k g o c p _ _ t k1 g1 e; cases e
  · intro bs k g o b k1 g1 r h1 _ h2 hk t k2 g2 e
    have a := h1 hk _ _ _ rfl
    have b := sg_nx cf l ext k1 a.2
    have c := h2 b.2 _ _ _ e
    omega
  · intro bs k g o b k1 g1 h1 _ hk t k2 g2 e
    cases e
    exact h1 hk _ _ _ rfl
  · intro k g o _ _ t k1 g1 e; cases e
  · intro items k g o _ _ hk t k1 g1 e
    cases e
    exact ⟨Nat.le_refl _, hk⟩
  · intro items k g o r _ _ h2 hk t k1 g1 e
    have b := sg_nx cf l ext k hk
    have c := h2 b.2 _ _ _ e
    omega
  · intro items k g o _ _ _ t k1 g1 e; cases e
  · intro items k g o c p _ _ _ _ t k1 g1 e; cases e
  · intro items k g o r _ _ _ h2 hk t k1 g1 e
    have b := sg_nx cf l ext k hk
    have c := h2 b.2 _ _ _ e
    omega
  · intro items k g o _ _ _ t k1 g1 e; cases e
  · intro items k g o c p _ _ _ _ t k1 g1 e; cases e
  · intro items k g o t k1 g1 _ _ _ _ _ t' k2 g2 e; cases e
  · intro items k g o t k1 g1 r _ _ h1 _ h2 hk t' k2 g2 e
    have a := sg_nx cf l ext k hk
    have b := h1 a.2 _ _ _ rfl
    have c := sg_nx cf l ext k1 b.2
    have d := h2 c.2 _ _ _ e
    omega
  · intro items k g o c p _ _ _ _ _ t k1 g1 e; cases e
  · intro items k g o r _ _ _ _ _ h2 hk t k1 g1 e
    have b := sg_nx cf l ext k hk
    have c := h2 b.2 _ _ _ e
    omega
def fuelR (l : List Int) : Nat := 2 * l.length + 2
end Go.Proofs.YtcceiblmdjbhjaaGreatDoor
/- Automata (pure): weights, how many states building puts in; rows from behind. -/
namespace Go.Proofs.YtcceiblmdjbhjaaGreatDoor
open Go.RowKit

/-- A tree's weight; s: its kids'; n: how many. -/
def ndW (kd mn mx : Int) (s n : Nat) : Nat :=
  if kd = 1 ∨ kd = 2 ∨ kd = 3 then 1
  else if kd = 5 then s + (n - 1)
  else if kd = 6 then (if mx < 0 then (mn.toNat + 1) * s + 1 else mx.toNat * s + (mx.toNat - mn.toNat))
  else s
def Fo.W : Fo → Nat
  | .nil => 0
  | .cons kd _ mn mx _ kids rest => ndW kd mn mx kids.W kids.len + rest.W
def Nd.W (n : Nd) : Nat := ndW n.kd n.mn n.mx n.kids.W n.kids.len
def LenB (B : GB) (s : Nat) : Prop := ∀ g nx, (B g nx).1.length ≤ g.length + s
theorem len_req {B : GB} {s : Nat} (h : LenB B s) : ∀ k, LenB (reqB B k) (k * s)
  | 0 => fun g nx => Nat.le_add_right _ _
  | k + 1 => fun g nx => by
    unfold reqB
    have h1 := h g nx
    rw [Nat.succ_mul]
    split
    · show (B g nx).1.length ≤ _
      omega
    · have := len_req h k (B g nx).1 (B g nx).2
      omega
theorem len_opt {B : GB} {s : Nat} (h : LenB B s) (nx : Nat) : ∀ k, LenB (optB B nx k) (k * (s + 1))
  | 0 => fun g _ => Nat.le_add_right _ _
  | k + 1 => fun g x => by
    unfold optB
    have h1 := h g x
    have := len_opt h nx k ((B g x).1 ++ [.fork (B g x).2 nx]) (B g x).1.length
    rw [List.length_append, List.length_singleton] at this
    rw [Nat.succ_mul]
    omega
theorem len_star {B : GB} {s : Nat} (h : LenB B s) : LenB (starB B) (s + 1) := fun g nx => by
  unfold starB
  have h1 := h (g ++ [.fork 0 nx]) g.length
  rw [List.length_append, List.length_singleton] at h1
  rw [List.length_set]
  omega
theorem len_times {B : GB} {s : Nat} (h : LenB B s) (mn mx : Int) (h0 : 0 ≤ mn) (hx : mx = -1 ∨ mn ≤ mx) : LenB (timesB B mn mx) (if mx < 0 then (mn.toNat + 1) * s + 1 else mx.toNat * s + (mx.toNat - mn.toNat)) := fun g nx => by
  unfold timesB
  rcases hx with hx | hx
  · rw [optB_neg _ _ _ _ _ _ (by omega)]
    unfold bgnB
    rw [if_pos hx, if_pos (by omega)]
    have h1 := len_star h g nx
    have h2 := len_req h mn.toNat (starB B g nx).1 (starB B g nx).2
    rw [Nat.succ_mul]
    exact Nat.le_trans h2 (by omega)
  · unfold bgnB
    rw [if_neg (by omega), if_neg (by omega)]
    have h1 := len_opt h nx (mx - mn).toNat g nx
    have h2 := len_req h mn.toNat (optB B nx (mx - mn).toNat g nx).1 (optB B nx (mx - mn).toNat g nx).2
    have e : mx.toNat = mn.toNat + (mx - mn).toNat := by omega
    rw [e, Nat.add_mul, Nat.add_sub_cancel_left]
    rw [Nat.mul_add, Nat.mul_one] at h1
    exact Nat.le_trans h2 (by omega)
theorem len_nd {kd : Int} {p : Nat → Bool} {mn mx : Int} {C A : GB} {s n : Nat} (hk : okN kd mn mx n) (hC : LenB C s) (hA : 0 < n → LenB A (s + (n - 1))) : LenB (ndB kd p mn mx C A) (ndW kd mn mx s n) := fun g nx => by
  unfold ndB ndW
  by_cases h1 : kd = 1
  · rw [if_pos h1, if_pos (Or.inl h1)]; simp
  by_cases h2 : kd = 2
  · rw [if_neg h1, if_pos h2, if_pos (Or.inr (Or.inl h2))]; simp
  by_cases h3 : kd = 3
  · rw [if_neg h1, if_neg h2, if_pos h3, if_pos (Or.inr (Or.inr h3))]; simp
  have h0 : ¬ (kd = 1 ∨ kd = 2 ∨ kd = 3) := by simp [h1, h2, h3]
  rw [if_neg h1, if_neg h2, if_neg h3, if_neg h0]
  by_cases h5 : kd = 5
  · simp only [if_pos h5]; exact hA (hk.1 h5) g nx
  by_cases h6 : kd = 6
  · simp only [if_neg h5, if_pos h6]; exact len_times hC mn mx (hk.2 h6).1 (hk.2 h6).2.1 g nx
  · simp only [if_neg h5, if_neg h6]; exact hC g nx
theorem Fo.lenB : ∀ f : Fo, f.Ok → LenB (f.B true) f.W ∧ (0 < f.len → LenB (f.B false) (f.W + (f.len - 1)))
  | .nil, _ => ⟨fun g nx => Nat.le_add_right _ _, fun h => by cases h⟩
  | .cons kd p mn mx gp kids rest, ⟨h1, h2, h3⟩ => by
    obtain ⟨k1, k2⟩ := Fo.lenB kids h2
    obtain ⟨r1, r2⟩ := Fo.lenB rest h3
    have hn : LenB (ndB kd p mn mx (kids.B true) (kids.B false)) (ndW kd mn mx kids.W kids.len) := len_nd h1 k1 k2
    refine ⟨fun g nx => ?_, fun _ g nx => ?_⟩
    · unfold Fo.B
      simp only [if_true]
      show _ ≤ g.length + (ndW kd mn mx kids.W kids.len + rest.W)
      have h4 := r1 g nx
      have h5 := hn (rest.B true g nx).1 (rest.B true g nx).2
      omega
    · show _ ≤ g.length + (ndW kd mn mx kids.W kids.len + rest.W + (rest.len + 1 - 1))
      unfold Fo.B
      by_cases hz : rest.len = 0
      · simp only [Bool.false_eq_true, if_false, if_pos hz]
        have h5 := hn g nx
        omega
      · simp only [Bool.false_eq_true, if_false, if_neg hz, List.length_append, List.length_singleton]
        have h4 := r2 (by omega) g nx
        have h5 := hn (rest.B false g nx).1 nx
        omega
theorem Nd.lenB (n : Nd) (h : n.Ok) : LenB n.B n.W := len_nd h.1 (Fo.lenB _ h.2).1 (Fo.lenB _ h.2).2
/-- How many trees. -/
def Fo.nn : Fo → Nat
  | .nil => 0
  | .cons _ _ _ _ _ kids rest => 1 + kids.nn + rest.nn
def Nd.nn (n : Nd) : Nat := 1 + n.kids.nn
theorem Fo.len_nn : ∀ f : Fo, f.len ≤ f.nn
  | .nil => Nat.le_refl _
  | .cons _ _ _ _ _ kids rest => by
    have := Fo.len_nn rest
    show rest.len + 1 ≤ 1 + kids.nn + rest.nn
    omega
theorem nn_at : ∀ (l : List Nd) (k : Nat) (h : k < l.length), (l[k]).nn ≤ (fo l).nn
  | n :: r, 0, _ => by show 1 + n.kids.nn ≤ 1 + n.kids.nn + (fo r).nn; omega
  | n :: r, k + 1, h => by
    have := nn_at r k (by simpa using h)
    show (r[k]'(by simpa using h)).nn ≤ 1 + n.kids.nn + (fo r).nn
    omega
theorem ok_at : ∀ (l : List Nd), (fo l).Ok → ∀ (k : Nat) (h : k < l.length), (l[k]).Ok
  | n :: r, h, 0, _ => ⟨h.1, h.2.1⟩
  | n :: r, h, k + 1, hk => ok_at r h.2.2 k (by simpa using hk)
theorem w_at : ∀ (l : List Nd) (k : Nat) (h : k < l.length), (l[k]).W ≤ (fo l).W
  | n :: r, 0, _ => by show n.W ≤ n.W + (fo r).W; omega
  | n :: r, k + 1, h => by
    have := w_at r k (by simpa using h)
    show (r[k]'(by simpa using h)).W ≤ n.W + (fo r).W
    omega
/-- What is built is light. -/
def Fo.Lt : Fo → Prop
  | .nil => True
  | .cons kd _ _ mx _ kids rest => (¬ (kd = 1 ∨ kd = 2 ∨ kd = 3) → ¬ (kd = 6 ∧ mx = 0) → kids.Lt ∧ kids.W ≤ 4000 ∧ kids.len ≤ 1100) ∧ rest.Lt
def Nd.Lt (n : Nd) : Prop := ¬ (n.kd = 1 ∨ n.kd = 2 ∨ n.kd = 3) → ¬ (n.kd = 6 ∧ n.mx = 0) → n.kids.Lt ∧ n.kids.W ≤ 4000 ∧ n.kids.len ≤ 1100
theorem lt_at : ∀ (l : List Nd), (fo l).Lt → ∀ (k : Nat) (h : k < l.length), (l[k]).Lt
  | n :: r, h, 0, _ => h.1
  | n :: r, h, k + 1, hk => lt_at r h.2 k (by simpa using hk)
theorem ndW_kids {kd mn mx : Int} {s n : Nat} (h1 : ¬ (kd = 1 ∨ kd = 2 ∨ kd = 3)) (h2 : ¬ (kd = 6 ∧ mx = 0)) : s ≤ ndW kd mn mx s n := by
  unfold ndW
  rw [if_neg h1]
  split
  · omega
  split
  · split
    · rw [Nat.succ_mul]; omega
    · have h3 : 0 < mx.toNat := by omega
      have := Nat.le_mul_of_pos_left s h3
      omega
  · exact Nat.le_refl _
theorem Fo.light : ∀ f : Fo, f.W ≤ 4000 → f.nn ≤ 1100 → f.Lt
  | .nil, _, _ => trivial
  | .cons kd p mn mx gp kids rest, hw, hn => by
    have hw' : ndW kd mn mx kids.W kids.len + rest.W ≤ 4000 := hw
    have hn' : 1 + kids.nn + rest.nn ≤ 1100 := hn
    refine ⟨fun h1 h2 => ?_, Fo.light rest (by omega) (by omega)⟩
    have h3 : kids.W ≤ ndW kd mn mx kids.W kids.len := ndW_kids h1 h2
    have h4 := Fo.len_nn kids
    exact ⟨Fo.light kids (by omega) (by omega), by omega, by omega⟩
theorem Nd.light (n : Nd) (hw : n.W ≤ 4000) (hn : n.nn ≤ 1100) : n.Lt := fun h1 h2 => by
  have h3 : n.kids.W ≤ n.W := ndW_kids h1 h2
  have h4 := Fo.len_nn n.kids
  unfold Nd.nn at hn
  exact ⟨Fo.light _ (by omega) (by omega), by omega, by omega⟩

/-! ### A row from behind -/
def kidAt (l : List Nd) (x : Nat) : Nd := (l[min x (l.length - 1)]?).getD zeroN
theorem kidAt_lt {l : List Nd} {x : Nat} (h : x < l.length) : kidAt l x = l[x] := by
  unfold kidAt
  rw [Nat.min_eq_left (by omega), List.getElem?_eq_getElem h]
  rfl
def rowB (l : List Nd) (pre : List Nat) (r : List St × Nat) : List St × Nat := pre.foldl (fun r x => (kidAt l x).B r.1 r.2) r
theorem rowB_snoc (l : List Nd) (pre : List Nat) (x : Nat) (r : List St × Nat) : rowB l (pre ++ [x]) r = (kidAt l x).B (rowB l pre r).1 (rowB l pre r).2 := by unfold rowB; rw [List.foldl_append]; rfl
def downL (len : Nat) (k : Nat) : List Nat := (List.range k).map fun j => len - 1 - j
theorem downL_succ (len k : Nat) : downL len (k + 1) = downL len k ++ [len - 1 - k] := by simp [downL, List.range_succ]
theorem rowB_down (l : List Nd) (r : List St × Nat) : ∀ k, k ≤ l.length → rowB l (downL l.length k) r = (fo (l.drop (l.length - k))).B true r.1 r.2
  | 0, _ => by rw [Nat.sub_zero, List.drop_length]; rfl
  | k + 1, h => by
    rw [downL_succ, rowB_snoc, rowB_down l r k (by omega), kidAt_lt (by omega)]
    have e : l.drop (l.length - (k + 1)) = l[l.length - 1 - k]'(by omega) :: l.drop (l.length - k) := by
      rw [List.drop_eq_getElem_cons (by omega : l.length - (k + 1) < l.length)]
      congr 1
      · congr 1; omega
      · congr 1; omega
    rw [e]
    show _ = (Fo.cons _ _ _ _ _ _ (fo (l.drop (l.length - k)))).B true r.1 r.2
    conv => rhs; unfold Fo.B
    simp only [if_true]
    rfl
theorem rowB_all (l : List Nd) (r : List St × Nat) : rowB l (downL l.length l.length) r = (fo l).B true r.1 r.2 := by
  rw [rowB_down l r l.length (Nat.le_refl _), Nat.sub_self, List.drop_zero]
def altB (l : List Nd) (nx : Nat) (pre : List Nat) (r : List St × Nat) : List St × Nat := pre.foldl (fun r x => (((kidAt l x).B r.1 nx).1 ++ [.fork ((kidAt l x).B r.1 nx).2 r.2], ((kidAt l x).B r.1 nx).1.length)) r
theorem altB_snoc (l : List Nd) (nx : Nat) (pre : List Nat) (x : Nat) (r : List St × Nat) : altB l nx (pre ++ [x]) r = (((kidAt l x).B (altB l nx pre r).1 nx).1 ++ [.fork ((kidAt l x).B (altB l nx pre r).1 nx).2 (altB l nx pre r).2], ((kidAt l x).B (altB l nx pre r).1 nx).1.length) := by unfold altB; rw [List.foldl_append]; rfl
theorem altB_down (l : List Nd) (g : List St) (nx : Nat) (m : Nat) (hm : l.length = m + 1) : ∀ k, k ≤ m → altB l nx (downL m k) ((kidAt l m).B g nx) = (fo (l.drop (m - k))).B false g nx
  | 0, _ => by
    have e : l.drop m = [l[m]'(by omega)] := by
      rw [List.drop_eq_getElem_cons (by omega : m < l.length), List.drop_eq_nil_of_le (by omega)]
    rw [Nat.sub_zero, e, kidAt_lt (by omega)]
    show _ = (Fo.cons _ _ _ _ _ _ Fo.nil).B false g nx
    conv => rhs; unfold Fo.B
    simp only [Bool.false_eq_true, if_false, show Fo.nil.len = 0 from rfl, if_true]
    rfl
  | k + 1, h => by
    rw [downL_succ, altB_snoc, altB_down l g nx m hm k (by omega), kidAt_lt (by omega : m - 1 - k < l.length)]
    have e : l.drop (m - (k + 1)) = l[m - 1 - k]'(by omega) :: l.drop (m - k) := by
      rw [List.drop_eq_getElem_cons (by omega : m - (k + 1) < l.length)]
      congr 1
      · congr 1; omega
      · congr 1; omega
    have hz : ¬ (fo (l.drop (m - k))).len = 0 := by rw [fo_len, List.length_drop]; omega
    rw [e]
    show _ = (Fo.cons _ _ _ _ _ _ (fo (l.drop (m - k)))).B false g nx
    conv => rhs; unfold Fo.B
    simp only [Bool.false_eq_true, if_false]
    rw [if_neg hz]
    rfl
theorem altB_all (l : List Nd) (g : List St) (nx : Nat) (m : Nat) (hm : l.length = m + 1) : altB l nx (downL m m) ((kidAt l m).B g nx) = (fo l).B false g nx := by
  rw [altB_down l g nx m hm m (Nat.le_refl _), Nat.sub_self, List.drop_zero]
/-- Lengths on the way, whatever the places are. -/
theorem kidAt_ok {l : List Nd} (h : (fo l).Ok) (hl : 0 < l.length) (x : Nat) : (kidAt l x).Ok := by
  unfold kidAt
  rw [List.getElem?_eq_getElem (by omega)]
  exact ok_at l h _ _
theorem kidAt_w {l : List Nd} (hl : 0 < l.length) (x : Nat) : (kidAt l x).W ≤ (fo l).W := by
  unfold kidAt
  rw [List.getElem?_eq_getElem (by omega)]
  exact w_at l _ _
theorem rowB_len {l : List Nd} (h : (fo l).Ok) (hl : 0 < l.length) (r : List St × Nat) : ∀ pre : List Nat, (rowB l pre.reverse r).1.length ≤ r.1.length + pre.length * (fo l).W
  | [] => Nat.le_add_right _ _
  | x :: pre => by
    rw [List.reverse_cons, rowB_snoc]
    have h1 := rowB_len h hl r pre
    have h2 := Nd.lenB _ (kidAt_ok h hl x) (rowB l pre.reverse r).1 (rowB l pre.reverse r).2
    have h3 := kidAt_w hl x
    rw [List.length_cons, Nat.succ_mul]
    omega
theorem altB_len {l : List Nd} (h : (fo l).Ok) (hl : 0 < l.length) (nx : Nat) (r : List St × Nat) : ∀ pre : List Nat, (altB l nx pre.reverse r).1.length ≤ r.1.length + pre.length * ((fo l).W + 1)
  | [] => Nat.le_add_right _ _
  | x :: pre => by
    rw [List.reverse_cons, altB_snoc]
    have h1 := altB_len h hl nx r pre
    have h2 := Nd.lenB _ (kidAt_ok h hl x) (altB l nx pre.reverse r).1 nx
    have h3 := kidAt_w hl x
    rw [List.length_cons, Nat.succ_mul, List.length_append, List.length_singleton]
    omega
/-- The next state lies within, on the way. -/
theorem rowB_good {l : List Nd} (h : (fo l).Ok) (hl : 0 < l.length) (r : List St × Nat) (hr : r.2 < r.1.length) : ∀ pre : List Nat, (rowB l pre.reverse r).2 < (rowB l pre.reverse r).1.length
  | [] => hr
  | x :: pre => by
    rw [List.reverse_cons, rowB_snoc]
    exact (Nd.good [] (fun _ => True) _ (kidAt_ok h hl x) _ _ (rowB_good h hl r hr pre)).lt
theorem altB_good {l : List Nd} (h : (fo l).Ok) (hl : 0 < l.length) (nx : Nat) (r : List St × Nat) (hr : nx < r.1.length) : ∀ pre : List Nat, nx < (altB l nx pre.reverse r).1.length
  | [] => hr
  | x :: pre => by
    rw [List.reverse_cons, altB_snoc]
    have h1 := altB_good h hl nx r hr pre
    have h2 := pre_len (Nd.good [] (fun _ => True) _ (kidAt_ok h hl x) _ _ h1).pre
    rw [List.length_append, List.length_singleton]
    omega
end Go.Proofs.YtcceiblmdjbhjaaGreatDoor
/- The texts of signs: nextText, role, mayQuote, setOf, anyByte. -/
namespace Go.Proofs.YtcceiblmdjbhjaaGreatDoor
open Go.RowKit

theorem byt_ofR {l : List Int} (h : ∀ c ∈ l, 0 ≤ c ∧ c ≤ 255) : Byt l := fun i => by
  by_cases hi : i < l.length
  · rw [List.getD_eq_getElem?_getD, List.getElem?_eq_getElem hi]
    exact h _ (List.getElem_mem hi)
  · rw [List.getD_eq_getElem?_getD, List.getElem?_eq_none (by omega)]
    decide
theorem sgT_byt {l : List Int} (h : Byt l) (k : Nat) : Byt (sgT l k) := by
  unfold sgT
  refine byt_ofR fun c hc => ?_
  have a := h k
  have b := h (k + 1)
  split at hc
  · split at hc
    · simp only [List.mem_cons, List.not_mem_nil, or_false] at hc
      rcases hc with rfl | rfl
      · omega
      · exact b
    · rw [List.mem_singleton.1 hc]; exact a
  · cases hc
theorem atB_of {l : List Int} (h : Byt l) (k : Nat) : atB (ofBys l) k = l.getD k 0 := by unfold atB; rw [bys_ofBys h]
set_option maxHeartbeats 4000000 in
theorem nextText_any (cb k : Nat) (l : List Int) (hl : Byt l) (w : World) (h : Cur w cb (ofBys l) k) :
    Calls Tryz.prog 103 #[.pointer (some ⟨cb, 0, none⟩)] w fun x w' => x = .returned (.string (ofBys (sgT l k))) ∧ Mv cb (ofBys l) (k + (sgT l k).length) w w' := by
  have HN := Lib.hid (next_any cb k (ofBys l) w h)
  have hle := h.2.1
  rw [ofBys_size] at hle HN
  rw [atB_of hl] at HN
  clear h
  by_cases hk : k < l.length
  · rw [decide_eq_true hk, if_pos hk] at HN
    have HN2 : Hid (∀ w', Cur w' cb (ofBys l) (k + 1) → Calls Tryz.prog 130 #[.pointer (some ⟨cb, 0, none⟩)] w' fun e w'' => e = .returned (.tuple #[.int .u8 (l.getD (k + 1) 0), .bool (decide (k + 1 < l.length))]) ∧ Mv cb (ofBys l) (if k + 1 < l.length then k + 1 + 1 else k + 1) w' w'') := Lib.hid fun w' h' => by
      have := next_any cb (k + 1) (ofBys l) w' h'
      rw [ofBys_size, atB_of hl] at this
      exact this
    have hb0 := hl k
    have hb1 := hl (k + 1)
    by_cases hk1 : k + 1 < l.length
    · rw [decide_eq_true hk1, if_pos hk1] at HN2
      by_cases h92 : l.getD k 0 = 92
      · have HT : Hid (sgT l k = [92, l.getD (k + 1) 0]) := Lib.hid (by unfold sgT; rw [if_pos hk, if_pos ⟨h92, hk1⟩])
        rw [HT.out]
        rw [h92] at HN
        generalize l.getD (k + 1) 0 = d at *
        have hcv : ∀ X : World, (convert 22 9 (.slice (some ⟨X.heap.size, 0, none⟩) 2 2)).run Tryz.prog (X.alloc (.cells #[.int .u8 92, .int .u8 d] 5)) = .ok (.string (ofBys [92, d])) (X.alloc (.cells #[.int .u8 92, .int .u8 d] 5)) := fun X => by
          refine conv_string (l := [92, d]) ⟨byt_ofR (fun z hz => ?_), by simp, Or.inr ⟨X.heap.size, 0, 2, rfl, Nat.le_refl _, by decide, fun i hi => ?_⟩⟩
          · simp only [List.mem_cons, List.not_mem_nil, or_false] at hz
            rcases hz with rfl | rfl <;> omega
          · have hb := alloc_last X (.cells #[.int .u8 92, .int .u8 d] 5)
            have hi' : i < 2 := hi
            rcases (by omega : i = 0 ∨ i = 1) with rfl | rfl <;> exact (cell_of_row _ _ _ _ _ _ hb).trans rfl
        clear hb0 hb1 hle hk hk1 h92
        go_enter Tryz.func103, Tryz.ntmps103
        go_wp2_with fail
        refine HN.out.mono ?_
        rintro x w1 ⟨rfl, hm1⟩
        have HM1 := Lib.hid hm1
        clear hm1
        go_wp2_with fail
        refine (HN2.out _ HM1.out.cur).mono ?_
        rintro x w2 ⟨rfl, hm2⟩
        have HM2 := Lib.hid (HM1.out.trans hm2)
        clear hm2
        go_wp2
        go_ret
        exact ⟨rfl, HM2.out.alloc _⟩
      · have HT : Hid (sgT l k = [l.getD k 0]) := Lib.hid (by unfold sgT; rw [if_pos hk, if_neg (fun h => h92 h.1)])
        rw [HT.out]
        have HBK : Hid (∀ w', Cur w' cb (ofBys l) (k + 2) → Calls Tryz.prog 131 #[.pointer (some ⟨cb, 0, none⟩), .int .i64 1] w' fun e w'' => e = .returned (.bool true) ∧ Mv cb (ofBys l) (k + 2 - 1) w' w'') := Lib.hid fun w' h' => back_yes cb (k + 2) 1 _ w' h' (by omega)
        have e92 : (l.getD k 0 == 92) = false := beq_eq_false_iff_ne.2 h92
        generalize l.getD k 0 = c at *
        have hcv : ∀ X : World, (convert 22 9 (.slice (some ⟨X.heap.size, 0, none⟩) 1 1)).run Tryz.prog (X.alloc (.cells #[.int .u8 c] 5)) = .ok (.string (ofBys [c])) (X.alloc (.cells #[.int .u8 c] 5)) := fun X => by
          refine conv_string (l := [c]) ⟨byt_ofR (fun z hz => by rw [List.mem_singleton.1 hz]; omega), by simp, Or.inr ⟨X.heap.size, 0, 1, rfl, Nat.le_refl _, by decide, fun i hi => ?_⟩⟩
          have hb := alloc_last X (.cells #[.int .u8 c] 5)
          have hi' : i < 1 := hi
          obtain rfl : i = 0 := by omega
          exact (cell_of_row _ _ _ _ _ _ hb).trans rfl
        clear hb0 hb1 hle hk hk1 h92
        go_enter Tryz.func103, Tryz.ntmps103
        go_wp2_with fail
        refine HN.out.mono ?_
        rintro x w1 ⟨rfl, hm1⟩
        have HM1 := Lib.hid hm1
        clear hm1
        go_wp2_with fail
        refine (HN2.out _ HM1.out.cur).mono ?_
        rintro x w2 ⟨rfl, hm2⟩
        have HM2 := Lib.hid (HM1.out.trans hm2)
        clear hm2
        go_wp2_with fail
        refine (HBK.out _ HM2.out.cur).mono ?_
        rintro x w3 ⟨rfl, hm3⟩
        have HM3 := Lib.hid (HM2.out.trans hm3)
        clear hm3
        go_wp2
        go_ret
        exact ⟨rfl, HM3.out.alloc _⟩
    · rw [decide_eq_false hk1, if_neg hk1] at HN2
      have HT : Hid (sgT l k = [l.getD k 0]) := Lib.hid (by unfold sgT; rw [if_pos hk, if_neg (fun h => hk1 h.2)])
      rw [HT.out]
      generalize l.getD k 0 = c at *
      have hcv : ∀ X : World, (convert 22 9 (.slice (some ⟨X.heap.size, 0, none⟩) 1 1)).run Tryz.prog (X.alloc (.cells #[.int .u8 c] 5)) = .ok (.string (ofBys [c])) (X.alloc (.cells #[.int .u8 c] 5)) := fun X => by
        refine conv_string (l := [c]) ⟨byt_ofR (fun z hz => by rw [List.mem_singleton.1 hz]; omega), by simp, Or.inr ⟨X.heap.size, 0, 1, rfl, Nat.le_refl _, by decide, fun i hi => ?_⟩⟩
        have hb := alloc_last X (.cells #[.int .u8 c] 5)
        have hi' : i < 1 := hi
        obtain rfl : i = 0 := by omega
        exact (cell_of_row _ _ _ _ _ _ hb).trans rfl
      clear hb0 hb1 hle hk hk1
      go_enter Tryz.func103, Tryz.ntmps103
      go_wp2_with fail
      refine HN.out.mono ?_
      rintro x w1 ⟨rfl, hm1⟩
      have HM1 := Lib.hid hm1
      clear hm1
      go_wp2_with fail
      refine (HN2.out _ HM1.out.cur).mono ?_
      rintro x w2 ⟨rfl, hm2⟩
      have HM2 := Lib.hid (HM1.out.trans hm2)
      clear hm2
      go_wp2
      go_ret
      exact ⟨rfl, HM2.out.alloc _⟩
  · rw [decide_eq_false hk, if_neg hk] at HN
    have HT : Hid (sgT l k = []) := Lib.hid (sgT_end l k hk)
    rw [HT.out]
    clear hk hle
    go_enter Tryz.func103, Tryz.ntmps103
    go_wp2_with fail
    refine HN.out.mono ?_
    rintro x w1 ⟨rfl, hm1⟩
    have HM1 := Lib.hid hm1
    clear hm1
    go_wp2
    go_ret
    exact ⟨rfl, HM1.out⟩

/-- What a role is called. -/
def roleS (r : Int) : List Int := if r = 0 then [] else if r = 256 then [101, 110, 100] else [r]
set_option maxHeartbeats 4000000 in
theorem mayQ_any (c : Int) (ext : Bool) (w : World) : Calls Tryz.prog 60 #[.int .u8 c, .bool ext] w fun x w' => x = .returned (.bool (mayQ c ext)) ∧ w' = w := by
  by_cases h1 : c = 40 ∨ c = 41 ∨ c = 43 ∨ c = 63 ∨ c = 123 ∨ c = 125 ∨ c = 124
  · have e : mayQ c ext = ext := by unfold mayQ; rw [if_pos h1]
    rw [e]
    clear e
    rcases h1 with rfl | rfl | rfl | rfl | rfl | rfl | rfl
    all_goals
      cases ext
      all_goals
        go_enter Tryz.func60, Tryz.ntmps60
        go_wp2
        go_ret
        exact ⟨rfl, rfl⟩
  · by_cases h2 : c = 46 ∨ c = 91 ∨ c = 93 ∨ c = 42 ∨ c = 94 ∨ c = 36 ∨ c = 47 ∨ c = 92
    · have e : mayQ c ext = true := by unfold mayQ; rw [if_neg h1]; exact decide_eq_true h2
      rw [e]
      clear e h1
      rcases h2 with rfl | rfl | rfl | rfl | rfl | rfl | rfl | rfl
      all_goals
        go_enter Tryz.func60, Tryz.ntmps60
        go_wp2
        go_ret
        exact ⟨rfl, rfl⟩
    · have e : mayQ c ext = false := by unfold mayQ; rw [if_neg h1]; exact decide_eq_false h2
      rw [e]
      clear e
      simp only [not_or] at h1 h2
      obtain ⟨a1, a2, a3, a4, a5, a6, a7⟩ := h1
      obtain ⟨b1, b2, b3, b4, b5, b6, b7, b8⟩ := h2
      have ea1 := beq_eq_false_iff_ne.2 a1
      have ea2 := beq_eq_false_iff_ne.2 a2
      have ea3 := beq_eq_false_iff_ne.2 a3
      have ea4 := beq_eq_false_iff_ne.2 a4
      have ea5 := beq_eq_false_iff_ne.2 a5
      have ea6 := beq_eq_false_iff_ne.2 a6
      have ea7 := beq_eq_false_iff_ne.2 a7
      have eb1 := beq_eq_false_iff_ne.2 b1
      have eb2 := beq_eq_false_iff_ne.2 b2
      have eb3 := beq_eq_false_iff_ne.2 b3
      have eb4 := beq_eq_false_iff_ne.2 b4
      have eb5 := beq_eq_false_iff_ne.2 b5
      have eb6 := beq_eq_false_iff_ne.2 b6
      have eb7 := beq_eq_false_iff_ne.2 b7
      have eb8 := beq_eq_false_iff_ne.2 b8
      clear a1 a2 a3 a4 a5 a6 a7 b1 b2 b3 b4 b5 b6 b7 b8
      go_enter Tryz.func60, Tryz.ntmps60
      go_wp2
      go_ret
      exact ⟨rfl, rfl⟩
end Go.Proofs.YtcceiblmdjbhjaaGreatDoor
/- Where a regular expression is wrong, and how; what it has when it is right (pure). -/
namespace Go.Proofs.YtcceiblmdjbhjaaGreatDoor
open Go.RowKit

theorem sg_nd (cf : ByteArray → (Nat → Bool) × Bool) (l : List Int) (ext : Bool) (k : Nat) (h0 : endsB (sg cf l ext k).kd = false) (h1 : (sg cf l ext k).kd ≠ 1) (h2 : (sg cf l ext k).kd ≠ 2) (he : (sg cf l ext k).er = none) : 1 ≤ (sg cf l ext k).nd.kd ∧ (sg cf l ext k).nd.kids = .nil := by
  revert h0 h1 h2 he
  apply sg_cases (fun s => endsB s.kd = false → s.kd ≠ 1 → s.kd ≠ 2 → s.er = none → 1 ≤ s.nd.kd ∧ s.nd.kids = .nil) <;> intros <;> simp_all [endsB, setN, kindN]
def kdL (l : List Nd) : Prop := ∀ x ∈ l, 1 ≤ x.kd
theorem kd_join {kd : Int} {l : List Nd} (hk : 1 ≤ kd) (h : kdL l) : 1 ≤ (joinN kd l).kd := by
  unfold joinN
  split
  · exact h _ (by simp)
  · exact hk
theorem kd_snoc {l : List Nd} {x : Nd} (h : kdL l) (hx : 1 ≤ x.kd) : kdL (l ++ [x]) := fun y hy => by
  rcases List.mem_append.1 hy with h1 | h1
  · exact h y h1
  · rw [List.mem_singleton.1 h1]; exact hx
theorem kd_rep {l : List Nd} {m n : Int} (h : kdL l) : kdL (repL l m n) := by
  unfold repL
  split
  · exact h
  · refine kd_snoc (fun y hy => h y (List.dropLast_subset _ hy)) (by show (1 : Int) ≤ 6; decide)
def RM.list : RM → List Nd
  | .re bs => bs
  | .br items => items
/-- A tree that was read is of some kind; there are at most nine groups. -/
theorem rdR_kd (cf : ByteArray → (Nat → Bool) × Bool) (l : List Int) (ext : Bool) (n : Nat) (md : RM) (k g o : Nat) (t : Nd) (k1 g1 : Nat) (h : rdR cf l ext n md k g o = some (.ok t k1 g1)) (hm : kdL md.list) (hg : g ≤ 9) : 1 ≤ t.kd ∧ g1 ≤ 9 := by
  have key := rdR_ind cf l ext (fun md _ g _ r => kdL md.list → g ≤ 9 → ∀ t k1 g1, r = .ok t k1 g1 → 1 ≤ t.kd ∧ g1 ≤ 9) ?_ ?_ ?_ ?_ ?_ ?_ ?_ ?_ ?_ ?_ ?_ ?_ ?_ ?_ ?_ n md k g o _ h
  · exact key hm hg t k1 g1 rfl
  · intro bs k g o c p _ _ _ t k1 g1 e; cases e
  · intro bs k g o b k1 g1 r h1 _ h2 hm hg t k2 g2 e
    have a := h1 (fun x hx => by cases hx) hg _ _ _ rfl
    exact h2 (kd_snoc hm a.1) a.2 _ _ _ e
  · intro bs k g o b k1 g1 h1 _ hm hg t k2 g2 e
    have a := h1 (fun x hx => by cases hx) hg _ _ _ rfl
    cases e
    exact ⟨kd_join (by decide) (kd_snoc hm a.1), a.2⟩
  · intro k g o _ _ _ t k1 g1 e; cases e
  · intro items k g o _ _ hm hg t k1 g1 e
    cases e
    exact ⟨kd_join (by decide) hm, hg⟩
  · intro items k g o r _ _ h2 hm hg t k1 g1 e
    exact h2 (kd_snoc hm (by show (1 : Int) ≤ 1; decide)) hg _ _ _ e
  · intro items k g o _ _ _ _ t k1 g1 e; cases e
  · intro items k g o c p _ _ _ _ _ t k1 g1 e; cases e
  · intro items k g o r _ _ _ h2 hm hg t k1 g1 e
    exact h2 (kd_rep hm) hg _ _ _ e
  · intro items k g o _ _ _ _ t k1 g1 e; cases e
  · intro items k g o c p _ _ _ _ _ t k1 g1 e; cases e
  · intro items k g o t k1 g1 _ _ _ _ _ _ t' k2 g2 e; cases e
  · intro items k g o t k1 g1 r _ h9 h1 _ h2 hm hg t' k2 g2 e
    have a := h1 (fun x hx => by cases hx) (by omega) _ _ _ rfl
    exact h2 (kd_snoc hm (by show (1 : Int) ≤ 7; decide)) a.2 _ _ _ e
  · intro items k g o c p _ _ _ _ _ _ t k1 g1 e; cases e
  · intro items k g o r h0 h1 h2' he _ h2 hm hg t k1 g1 e
    exact h2 (kd_snoc hm (sg_nd cf l ext k h0 h1 h2' he).1) hg _ _ _ e
theorem parseN_ok {cf : ByteArray → (Nat → Bool) × Bool} {l : List Int} {ext : Bool} {n : Nat} {t : Nd} {k g : Nat} (h : parseN cf l ext n = some (.ok t k g)) : l.length ≤ 256 ∧ rdR cf l ext n (.re []) 0 0 0 = some (.ok t k g) ∧ k = l.length ∧ 1 ≤ t.kd ∧ g ≤ 9 := by
  unfold parseN at h
  split at h
  · cases h
  rename_i hb
  cases hr : rdR cf l ext n (.re []) 0 0 0 with
  | none => rw [hr] at h; cases h
  | some r =>
    rw [hr] at h
    cases r with
    | bad c' p' => cases h
    | ok t k g =>
      dsimp only at h
      split at h
      · rename_i h5
        cases h
        have a := rdR_le cf l ext _ _ _ _ _ _ _ _ hr (Nat.zero_le _)
        have b := rdR_kd cf l ext _ _ _ _ _ _ _ _ hr (fun x hx => by cases hx) (Nat.zero_le _)
        have c := sg_last cf l ext k h5
        exact ⟨by omega, rfl, by omega, b⟩
      · cases h
end Go.Proofs.YtcceiblmdjbhjaaGreatDoor
