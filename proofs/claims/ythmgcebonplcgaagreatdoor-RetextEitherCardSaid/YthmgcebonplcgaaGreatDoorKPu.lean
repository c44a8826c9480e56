/- KPu: several texts in one (kmerge.py). -/
import Derived.Test.YthmgcebonplcgaaGreatDoorKItx
import Derived.Test.YthmgcebonplcgaaGreatDoorSeCtz
import Derived.Test.YthmgcebonplcgaaGreatDoorKSet
import Derived.Test.YthmgcebonplcgaaGreatDoorKSn
import Derived.Test.YthmgcebonplcgaaGreatDoorReAs
/- A bracket with one byte more ahead; with other bytes behind. -/
namespace Go.Proofs.YthmgcebonplcgaaGreatDoor
open Go.RowKit

/-! ### One byte more ahead -/
/-! ### Other bytes behind -/
structure Agr (s s' : ByteArray) (m : Nat) : Prop where
  at' : ∀ j, j < m → atB s' j = atB s j
  le : m ≤ s.size
  le' : m ≤ s'.size
  cut : ∀ a b, b ≤ m → s'.extract a b = s.extract a b
theorem cnE_agr {s s' : ByteArray} {m : Nat} (h : Agr s s' m) : ∀ n n' k y, cnE s n k = some y → y + 2 ≤ m → y - k < n' → k ≤ y → cnE s' n' k = some y := by
  intro n
  induction n with
  | zero => intro n' k y h1; cases h1
  | succ n ih =>
    intro n' k y h1 h2 h3 h4
    obtain ⟨n', rfl⟩ : ∃ j, n' = j + 1 := ⟨n' - 1, by omega⟩
    unfold cnE at h1 ⊢
    rw [h.at' k (by omega)]
    by_cases hk : k = y
    · subst hk
      rw [h.at' (k + 1) (by omega)]
      split at h1
      · rename_i hh; rw [if_pos hh]
      · exfalso
        have key : ∀ n j x, cnE s n j = some x → j ≤ x := by
          intro n
          induction n with
          | zero => intro j x h; cases h
          | succ n ih =>
            intro j x h
            unfold cnE at h
            split at h
            · have := Option.some.inj h; omega
            · have := ih _ _ h; omega
        have := key _ _ _ h1
        omega
    · rw [h.at' (k + 1) (by omega)]
      split at h1
      · have := Option.some.inj h1; omega
      · rename_i hh
        rw [if_neg hh]
        exact ih n' (k + 1) y h1 h2 (by omega) (by omega)
theorem cnE_ge {s : ByteArray} : ∀ n k y, cnE s n k = some y → k ≤ y := by
  intro n
  induction n with
  | zero => intro k y h; cases h
  | succ n ih =>
    intro k y h
    unfold cnE at h
    split at h
    · have := Option.some.inj h; omega
    · have := ih _ _ h; omega
theorem itemR_cls_agr (cf : ByteArray → (Nat → Bool) × Bool) {s s' : ByteArray} {m : Nat} (h : Agr s s' m) {g : Bool} {k : Nat} {p : Nat → Bool} {nx : Nat} (hr : itemR cf s g k = .cls p nx) (hm : nx < m) : itemR cf s' g k = .cls p nx := by
  have hn := itemR_next hr
  unfold itemR at hr ⊢
  rw [h.at' k (by omega), h.at' (k + 1) (by omega)]
  split at hr
  · rename_i c1
    rw [if_pos c1]
    cases hE : cnE s (s.size - (k + 2)) (k + 2) with
    | none => rw [hE] at hr; cases hr
    | some y =>
      rw [hE] at hr
      simp only at hr
      have hy := cnE_ge _ _ _ hE
      split at hr
      · rename_i c2
        have e : y + 2 = nx := by injection hr
        have hl := h.le'
        rw [cnE_agr h _ (s'.size - (k + 2)) _ y hE (by omega) (by omega) hy]
        simp only
        rw [h.cut (k + 2) y (by omega), if_pos c2]
        exact hr
      · cases hr
  · split at hr
    · cases hr
    · split at hr
      · split at hr <;> cases hr
      · split at hr <;> cases hr
theorem itemR_byt_agr (cf : ByteArray → (Nat → Bool) × Bool) {s s' : ByteArray} {m : Nat} (h : Agr s s' m) {g : Bool} {k : Nat} {c : Int} {nx : Nat} (hr : itemR cf s g k = .byt c nx) (hm : nx < m) : itemR cf s' g k = .byt c nx := by
  have hn := (itemR_byte hr).2
  have hl := h.le'
  unfold itemR at hr ⊢
  rw [h.at' k (by omega), h.at' (k + 1) (by omega)]
  split at hr
  · split at hr
    · cases hr
    · split at hr <;> cases hr
  · rename_i c1
    rw [if_neg c1]
    split at hr
    · cases hr
    · rename_i c2
      rw [if_neg c2]
      split at hr
      · rename_i c3
        rw [if_pos c3]
        split at hr
        · have e : k + 2 = nx := by injection hr
          rw [if_pos (by omega)]
          exact hr
        · cases hr
      · rename_i c3
        rw [if_neg c3]
        split at hr
        · rw [if_pos (by omega)]
          exact hr
        · cases hr
theorem partR_agr (cf : ByteArray → (Nat → Bool) × Bool) {s s' : ByteArray} {m : Nat} (h : Agr s s' m) {g : Bool} {k : Nat} {p : Nat → Bool} {nx : Nat} (hr : partR cf s g k = .ok p nx) (hm : nx < m) (hd : atB s nx = 45 → nx + 1 < m) : partR cf s' g k = .ok p nx := by
  have hn := partR_next hr
  unfold partR at hr ⊢
  cases h1 : itemR cf s g k with
  | bad pos => rw [h1] at hr; cases hr
  | cls q n1 =>
    rw [h1] at hr
    simp only at hr
    have e : n1 = nx := by injection hr
    rw [itemR_cls_agr cf h h1 (by omega)]
    exact hr
  | byt c n1 =>
    rw [h1] at hr
    simp only at hr
    have b1 := (itemR_byte h1).2
    by_cases c1 : atB s n1 = 45 ∧ ¬ atB s (n1 + 1) = 93
    · rw [if_pos c1] at hr
      cases h2 : itemR cf s g (n1 + 1) with
      | bad pos => rw [h2] at hr; cases hr
      | cls q n2 => rw [h2] at hr; cases hr
      | byt d n2 =>
        rw [h2] at hr
        simp only at hr
        have b2 := (itemR_byte h2).2
        split at hr
        · cases hr
        · rename_i c2
          have e : n2 = nx := by injection hr
          rw [itemR_byt_agr cf h h1 (by omega)]
          simp only
          rw [h.at' n1 (by omega), h.at' (n1 + 1) (by omega), if_pos c1, itemR_byt_agr cf h h2 (by omega)]
          simp only
          rw [if_neg c2]
          exact hr
    · rw [if_neg c1] at hr
      have e : n1 = nx := by injection hr
      subst e
      rw [itemR_byt_agr cf h h1 hm]
      simp only
      rw [h.at' n1 hm]
      by_cases h45 : atB s n1 = 45
      · rw [h.at' (n1 + 1) (hd h45), if_neg c1]
        exact hr
      · rw [if_neg (fun hh => h45 hh.1)]
        exact hr
theorem brkL_gt (cf : ByteArray → (Nat → Bool) × Bool) {s : ByteArray} {g : Bool} : ∀ (n k : Nat) (f : Bool) (p q : Nat → Bool) (m : Nat), brkL cf s g n k f p = .ok q m → k < m ∧ m ≤ s.size ∧ (¬ (f = false ∧ atB s k = 93) → k + 1 < m) := by
  intro n
  induction n with
  | zero => intro k f p q m h; cases h
  | succ n ih =>
    intro k f p q m h
    unfold brkL at h
    split at h
    · rename_i c1
      have e : k + 1 = m := by injection h
      have := atB_in (s := s) (k := k) (by rw [c1.2]; decide)
      exact ⟨by omega, by omega, fun hh => absurd c1 hh⟩
    · cases hp : partR cf s g k with
      | bad c pos => rw [hp] at h; cases h
      | ok r nx =>
        rw [hp] at h
        simp only at h
        have b1 := partR_next hp
        have b2 := ih nx false _ q m h
        exact ⟨by omega, b2.2.1, fun _ => by omega⟩
theorem brkL_agr (cf : ByteArray → (Nat → Bool) × Bool) {s s' : ByteArray} {m : Nat} (ha : Agr s s' m) {g : Bool} : ∀ (n n' k : Nat) (f : Bool) (p q : Nat → Bool), brkL cf s g n k f p = .ok q m → m - k ≤ n' → brkL cf s' g n' k f p = .ok q m := by
  intro n
  induction n with
  | zero => intro n' k f p q h; cases h
  | succ n ih =>
    intro n' k f p q h hn
    have hgt := brkL_gt cf _ _ _ _ _ _ h
    obtain ⟨n', rfl⟩ : ∃ j, n' = j + 1 := ⟨n' - 1, by omega⟩
    unfold brkL at h ⊢
    rw [ha.at' k hgt.1]
    split at h
    · rename_i c1
      rw [if_pos c1]
      exact h
    · rename_i c1
      rw [if_neg c1]
      cases hp : partR cf s g k with
      | bad c pos => rw [hp] at h; cases h
      | ok r nx =>
        rw [hp] at h
        simp only at h
        have b1 := partR_next hp
        have b2 := brkL_gt cf _ _ _ _ _ _ h
        rw [partR_agr cf ha hp b2.1 (fun h45 => b2.2.2 (fun hh => by rw [h45] at hh; exact absurd hh.2 (by decide)))]
        simp only
        exact ih n' nx false _ q h (by omega)
end Go.Proofs.YthmgcebonplcgaaGreatDoor
/- The pieces of a pattern, read (pure). -/
namespace Go.Proofs.YthmgcebonplcgaaGreatDoor
open Go.RowKit

theorem brkR_gt (cf : ByteArray → (Nat → Bool) × Bool) (s : ByteArray) (g : Bool) {q : Nat → Bool} {m : Nat} (h : brkR cf s g 0 = .ok q m) : 0 < m ∧ m ≤ s.size := by
  unfold brkR at h
  split at h
  · cases hb : brkL cf s g (s.size + 1 - (0 + 1)) (0 + 1) true noP with
    | bad c pos => rw [hb] at h; cases h
    | ok p nx =>
      rw [hb] at h
      simp only [brkT, BR.ok.injEq] at h
      obtain ⟨_, rfl⟩ := h
      have := brkL_gt cf _ _ _ _ _ _ hb
      omega
  · cases hb : brkL cf s g (s.size + 1 - 0) 0 true noP with
    | bad c pos => rw [hb] at h; cases h
    | ok p nx =>
      rw [hb] at h
      simp only [brkT, BR.ok.injEq] at h
      obtain ⟨_, rfl⟩ := h
      have := brkL_gt cf _ _ _ _ _ _ hb
      omega
end Go.Proofs.YthmgcebonplcgaaGreatDoor
/- Regular expressions: trees, signs, the reader by a function (pure). -/
namespace Go.Proofs.YthmgcebonplcgaaGreatDoor
open Go.RowKit

/-- A row of trees. -/
inductive Fo where
  | nil
  | cons (kd : Int) (p : Nat → Bool) (mn mx gp : Int) (kids rest : Fo)
/-- A tree. -/
structure Nd where
  kd : Int
  p : Nat → Bool
  mn : Int
  mx : Int
  gp : Int
  kids : Fo
def fo : List Nd → Fo
  | [] => .nil
  | n :: r => .cons n.kd n.p n.mn n.mx n.gp n.kids (fo r)
def Fo.toL : Fo → List Nd
  | .nil => []
  | .cons kd p mn mx gp kids rest => ⟨kd, p, mn, mx, gp, kids⟩ :: rest.toL
def Fo.len : Fo → Nat
  | .nil => 0
  | .cons _ _ _ _ _ _ rest => rest.len + 1
theorem fo_len : ∀ l : List Nd, (fo l).len = l.length
  | [] => rfl
  | _ :: r => by show (fo r).len + 1 = _; rw [fo_len r]; rfl
theorem fo_toL : ∀ f : Fo, fo f.toL = f
  | .nil => rfl
  | .cons _ _ _ _ _ _ rest => by show Fo.cons _ _ _ _ _ _ (fo rest.toL) = _; rw [fo_toL rest]
def zeroN : Nd := ⟨0, noP, 0, 0, 0, .nil⟩
def setN (p : Nat → Bool) : Nd := ⟨1, p, 0, 0, 0, .nil⟩
def kindN (kd : Int) : Nd := ⟨kd, noP, 0, 0, 0, .nil⟩
def allP (c : Nat) : Bool := !noP c
def joinN (kd : Int) (l : List Nd) : Nd :=
  match l with
  | [x] => x
  | l => ⟨kd, noP, 0, 0, 0, fo l⟩
def repN (m n : Int) (x : Nd) : Nd := ⟨6, noP, m, n, 0, fo [x]⟩
def grpN (k : Int) (x : Nd) : Nd := ⟨7, noP, 0, 0, k, fo [x]⟩

/-! ### Signs -/
/-- The text of the sign at a place. -/
def sgT (l : List Int) (k : Nat) : List Int :=
  if k < l.length then (if l.getD k 0 = 92 ∧ k + 1 < l.length then [92, l.getD (k + 1) 0] else [l.getD k 0]) else []
/-- What it does: 0 a byte, 256 the end, else the sign as the extended grammar writes it. -/
def roleC (t : List Int) (ext : Bool) : Int :=
  if t = [] then 256
  else if t = [92, 40] ∨ t = [92, 41] ∨ t = [92, 123] then (if ext then 0 else t.getD 1 0)
  else if t = [40] ∨ t = [41] ∨ t = [123] ∨ t = [43] ∨ t = [63] ∨ t = [124] then (if ext then t.getD 0 0 else 0)
  else if t = [46] ∨ t = [91] ∨ t = [94] ∨ t = [36] ∨ t = [42] then t.getD 0 0
  else 0
def mayQ (c : Int) (ext : Bool) : Bool :=
  if c = 40 ∨ c = 41 ∨ c = 43 ∨ c = 63 ∨ c = 123 ∨ c = 125 ∨ c = 124 then ext
  else decide (c = 46 ∨ c = 91 ∨ c = 93 ∨ c = 42 ∨ c = 94 ∨ c = 36 ∨ c = 47 ∨ c = 92)
/-- The byte that a sign is, or the code of what is wrong. -/
inductive LT where
  | byt (c : Int)
  | bad (code : Nat)
def litR (t : List Int) (ext : Bool) : LT :=
  if ¬ t.getD 0 0 = 92 then .byt (t.getD 0 0)
  else if t = [92, 110] then .byt 10
  else if t = [92, 125] ∧ ext = false then .bad 3
  else if 1 < t.length ∧ mayQ (t.getD 1 0) ext = true then .byt (t.getD 1 0)
  else .bad 10
def dgtB : ByteArray := ⟨#[48, 49, 50, 51, 52, 53, 54, 55, 56, 57]⟩
/-- The digits at a place. -/
def nD (l : List Int) (k : Nat) : Nat := passN (ofBys l) dgtB true k
def dgs (l : List Int) (k : Nat) : List Int := (l.drop k).take (nD l k)
def numOk (l : List Int) (k : Nat) : Bool := wOk (dgs l k) && decide ((dgs l k).length ≤ 3) && decide (wV (dgs l k) ≤ 255)
def numV (l : List Int) (k : Nat) : Int := wV (dgs l k)
def begAt (l : List Int) (k : Nat) (e : List Int) : Bool := decide ((l.drop k).take e.length = e)
def shutT (ext : Bool) : List Int := if ext then [125] else [92, 125]
/-- The numbers of an interval, and where it ends. -/
def itv (l : List Int) (ext : Bool) (k : Nat) : Option (Int × Int × Nat) :=
  if numOk l k = false then none
  else if begAt l (k + nD l k) (shutT ext) = true then some (numV l k, numV l k, k + nD l k + (shutT ext).length)
  else if begAt l (k + nD l k) [44] = false then none
  else if begAt l (k + nD l k + 1) (shutT ext) = true then some (numV l k, -1, k + nD l k + 1 + (shutT ext).length)
  else if (numOk l (k + nD l k + 1) && decide (numV l k ≤ numV l (k + nD l k + 1)) && begAt l (k + nD l k + 1 + nD l (k + nD l k + 1)) (shutT ext)) = true
    then some (numV l k, numV l (k + nD l k + 1), k + nD l k + 1 + nD l (k + nD l k + 1) + (shutT ext).length)
  else none
/-- A sign: kind, text, tree, numbers, what is wrong, where the next one begins. -/
structure Sg where
  kd : Nat
  tx : List Int
  nd : Nd
  lo : Int
  hi : Int
  er : Option (Nat × Nat)
  nx : Nat
def sgR (cf : ByteArray → (Nat → Bool) × Bool) (l : List Int) (ext : Bool) (k : Nat) (t : List Int) (k1 : Nat) (r : Int) : Sg :=
  if r = 0 then
    match litR t ext with
    | .byt c => ⟨0, t, setN (mem [c]), 0, 0, none, k1⟩
    | .bad c => ⟨0, t, zeroN, 0, 0, some (c, k), k1⟩
  else if r = 46 then ⟨0, t, setN allP, 0, 0, none, k1⟩
  else if r = 91 then
    match brkR cf (ofBys (l.drop k1)) false 0 with
    | .ok p nx => ⟨0, t, setN p, 0, 0, none, k1 + nx⟩
    | .bad c pos => ⟨0, t, setN noP, 0, 0, some (c, k1 + pos), k1⟩
  else if r = 94 then ⟨0, t, kindN 2, 0, 0, none, k1⟩
  else if r = 36 then ⟨0, t, kindN 3, 0, 0, none, k1⟩
  else if r = 43 then ⟨1, t, zeroN, 1, -1, none, k1⟩
  else if r = 42 then ⟨1, t, zeroN, 0, -1, none, k1⟩
  else if r = 63 then ⟨1, t, zeroN, 0, 1, none, k1⟩
  else if r = 123 then
    match itv l ext k1 with
    | some (m, n, k2) => ⟨1, t, zeroN, m, n, none, k2⟩
    | none => ⟨1, t, zeroN, 0, 0, some (7, k), k1⟩
  else if r = 40 then ⟨2, t, zeroN, 0, 0, none, k1⟩
  else if r = 41 then ⟨3, t, zeroN, 0, 0, none, k1⟩
  else if r = 124 then ⟨4, t, zeroN, 0, 0, none, k1⟩
  else ⟨5, t, zeroN, 0, 0, none, k1⟩
/-- The sign at a place. -/
def sg (cf : ByteArray → (Nat → Bool) × Bool) (l : List Int) (ext : Bool) (k : Nat) : Sg := sgR cf l ext k (sgT l k) (k + (sgT l k).length) (roleC (sgT l k) ext)
/-- The roles that there are. -/
theorem role_all (t : List Int) (ext : Bool) : roleC t ext = 0 ∨ roleC t ext = 46 ∨ roleC t ext = 91 ∨ roleC t ext = 94 ∨ roleC t ext = 36 ∨ roleC t ext = 43 ∨ roleC t ext = 42 ∨ roleC t ext = 63 ∨ roleC t ext = 123 ∨ roleC t ext = 40 ∨ roleC t ext = 41 ∨ roleC t ext = 124 ∨ (roleC t ext = 256 ∧ t = []) := by
  unfold roleC
  split
  · rename_i h; simp [h]
  split
  · rename_i hc
    rcases hc with e | e | e <;> rw [e] <;> cases ext <;> simp
  split
  · rename_i hc
    rcases hc with e | e | e | e | e | e <;> rw [e] <;> cases ext <;> simp
  split
  · rename_i hc
    rcases hc with e | e | e | e | e <;> rw [e] <;> simp
  · simp
theorem sg_cases (P : Sg → Prop) (cf : ByteArray → (Nat → Bool) × Bool) (l : List Int) (ext : Bool) (k : Nat)
    (h0 : ∀ c, roleC (sgT l k) ext = 0 → litR (sgT l k) ext = .byt c → P ⟨0, sgT l k, setN (mem [c]), 0, 0, none, k + (sgT l k).length⟩)
    (h0b : ∀ c, roleC (sgT l k) ext = 0 → litR (sgT l k) ext = .bad c → P ⟨0, sgT l k, zeroN, 0, 0, some (c, k), k + (sgT l k).length⟩)
    (h46 : roleC (sgT l k) ext = 46 → P ⟨0, sgT l k, setN allP, 0, 0, none, k + (sgT l k).length⟩)
    (h91 : ∀ p nx, roleC (sgT l k) ext = 91 → brkR cf (ofBys (l.drop (k + (sgT l k).length))) false 0 = .ok p nx → P ⟨0, sgT l k, setN p, 0, 0, none, k + (sgT l k).length + nx⟩)
    (h91b : ∀ c pos, roleC (sgT l k) ext = 91 → brkR cf (ofBys (l.drop (k + (sgT l k).length))) false 0 = .bad c pos → P ⟨0, sgT l k, setN noP, 0, 0, some (c, k + (sgT l k).length + pos), k + (sgT l k).length⟩)
    (h94 : roleC (sgT l k) ext = 94 → P ⟨0, sgT l k, kindN 2, 0, 0, none, k + (sgT l k).length⟩)
    (h36 : roleC (sgT l k) ext = 36 → P ⟨0, sgT l k, kindN 3, 0, 0, none, k + (sgT l k).length⟩)
    (h43 : roleC (sgT l k) ext = 43 → P ⟨1, sgT l k, zeroN, 1, -1, none, k + (sgT l k).length⟩)
    (h42 : roleC (sgT l k) ext = 42 → P ⟨1, sgT l k, zeroN, 0, -1, none, k + (sgT l k).length⟩)
    (h63 : roleC (sgT l k) ext = 63 → P ⟨1, sgT l k, zeroN, 0, 1, none, k + (sgT l k).length⟩)
    (h123 : ∀ m n k2, roleC (sgT l k) ext = 123 → itv l ext (k + (sgT l k).length) = some (m, n, k2) → P ⟨1, sgT l k, zeroN, m, n, none, k2⟩)
    (h123b : roleC (sgT l k) ext = 123 → itv l ext (k + (sgT l k).length) = none → P ⟨1, sgT l k, zeroN, 0, 0, some (7, k), k + (sgT l k).length⟩)
    (h40 : roleC (sgT l k) ext = 40 → P ⟨2, sgT l k, zeroN, 0, 0, none, k + (sgT l k).length⟩)
    (h41 : roleC (sgT l k) ext = 41 → P ⟨3, sgT l k, zeroN, 0, 0, none, k + (sgT l k).length⟩)
    (h124 : roleC (sgT l k) ext = 124 → P ⟨4, sgT l k, zeroN, 0, 0, none, k + (sgT l k).length⟩)
    (h256 : roleC (sgT l k) ext = 256 → sgT l k = [] → P ⟨5, sgT l k, zeroN, 0, 0, none, k + (sgT l k).length⟩) : P (sg cf l ext k) := by
  unfold sg
  rcases role_all (sgT l k) ext with h | h | h | h | h | h | h | h | h | h | h | h | ⟨h, h'⟩ <;> rw [h]
  · cases hl : litR (sgT l k) ext with
    | byt c =>
      have e : sgR cf l ext k (sgT l k) (k + (sgT l k).length) 0 = ⟨0, sgT l k, setN (mem [c]), 0, 0, none, k + (sgT l k).length⟩ := by unfold sgR; rw [if_pos rfl, hl]
      rw [e]; exact h0 c h hl
    | bad c =>
      have e : sgR cf l ext k (sgT l k) (k + (sgT l k).length) 0 = ⟨0, sgT l k, zeroN, 0, 0, some (c, k), k + (sgT l k).length⟩ := by unfold sgR; rw [if_pos rfl, hl]
      rw [e]; exact h0b c h hl
  · exact h46 h
  · cases hb : brkR cf (ofBys (l.drop (k + (sgT l k).length))) false 0 with
    | ok p nx =>
      have e : sgR cf l ext k (sgT l k) (k + (sgT l k).length) 91 = ⟨0, sgT l k, setN p, 0, 0, none, k + (sgT l k).length + nx⟩ := by unfold sgR; rw [if_neg (by decide), if_neg (by decide), if_pos rfl, hb]
      rw [e]; exact h91 p nx h hb
    | bad c pos =>
      have e : sgR cf l ext k (sgT l k) (k + (sgT l k).length) 91 = ⟨0, sgT l k, setN noP, 0, 0, some (c, k + (sgT l k).length + pos), k + (sgT l k).length⟩ := by unfold sgR; rw [if_neg (by decide), if_neg (by decide), if_pos rfl, hb]
      rw [e]; exact h91b c pos h hb
  · exact h94 h
  · exact h36 h
  · exact h43 h
  · exact h42 h
  · exact h63 h
  · cases hi : itv l ext (k + (sgT l k).length) with
    | some x =>
      obtain ⟨m, n, k2⟩ := x
      have e : sgR cf l ext k (sgT l k) (k + (sgT l k).length) 123 = ⟨1, sgT l k, zeroN, m, n, none, k2⟩ := by
        show (match itv l ext (k + (sgT l k).length) with | some (m, n, k2) => _ | none => _) = _
        rw [hi]
      rw [e]; exact h123 m n k2 h hi
    | none =>
      have e : sgR cf l ext k (sgT l k) (k + (sgT l k).length) 123 = ⟨1, sgT l k, zeroN, 0, 0, some (7, k), k + (sgT l k).length⟩ := by
        show (match itv l ext (k + (sgT l k).length) with | some (m, n, k2) => _ | none => _) = _
        rw [hi]
      rw [e]; exact h123b h hi
  · exact h40 h
  · exact h41 h
  · exact h124 h
  · exact h256 h h'

/-! ### The reader -/
inductive RR where
  | ok (t : Nd) (k g : Nat)
  | bad (c p : Nat)
inductive RM where
  | re (bs : List Nd)
  | br (items : List Nd)
def endsB (kd : Nat) : Bool := kd == 3 || kd == 4 || kd == 5
def endsP (items : List Nd) : Bool :=
  match items.getLast? with
  | none => false
  | some x => decide (x.kd ≠ 2) && decide (x.kd ≠ 3)
def isByt (ext : Bool) (s : Sg) (nk : Nat) (items : List Nd) : Bool :=
  if ext then false
  else if s.tx = [94] then !items.isEmpty
  else if s.tx = [36] then !endsB nk
  else if s.tx = [42] then !endsP items
  else false
def repL (items : List Nd) (m n : Int) : List Nd :=
  match items.getLast? with
  | none => items
  | some x => items.dropLast ++ [repN m n x]
def rdR (cf : ByteArray → (Nat → Bool) × Bool) (l : List Int) (ext : Bool) : Nat → RM → Nat → Nat → Nat → Option RR
  | 0, _, _, _, _ => none
  | n + 1, .re bs, k, g, o =>
    match rdR cf l ext n (.br []) k g o with
    | some (.ok b k1 g1) => if (sg cf l ext k1).kd = 4 then rdR cf l ext n (.re (bs ++ [b])) (sg cf l ext k1).nx g1 o else some (.ok (joinN 5 (bs ++ [b])) k1 g1)
    | r => r
  | n + 1, .br items, k, g, o =>
    if endsB (sg cf l ext k).kd = true then
      (if items = [] then some (.bad (if ext = true ∧ (sg cf l ext k).kd = 3 ∧ o = 0 then 9 else 3) k) else some (.ok (joinN 4 items) k g))
    else if isByt ext (sg cf l ext k) (sg cf l ext (sg cf l ext k).nx).kd items = true then rdR cf l ext n (.br (items ++ [setN (mem (sg cf l ext k).tx)])) (sg cf l ext k).nx g o
    else if (sg cf l ext k).kd = 1 then
      (if endsP items = false then some (.bad 3 k)
      else match (sg cf l ext k).er with
        | some (c, p) => some (.bad c p)
        | none => rdR cf l ext n (.br (repL items (sg cf l ext k).lo (sg cf l ext k).hi)) (sg cf l ext k).nx g o)
    else if (sg cf l ext k).kd = 2 then
      (if g = 9 then some (.bad 5 k)
      else match rdR cf l ext n (.re []) (sg cf l ext k).nx (g + 1) (o + 1) with
        | some (.ok t k1 g1) => if (sg cf l ext k1).kd = 3 then rdR cf l ext n (.br (items ++ [grpN (g + 1 : Nat) t])) (sg cf l ext k1).nx g1 o else some (.bad 9 k1)
        | r => r)
    else match (sg cf l ext k).er with
      | some (c, p) => some (.bad c p)
      | none => rdR cf l ext n (.br (items ++ [(sg cf l ext k).nd])) (sg cf l ext k).nx g o
/-- What Parse tells, by so many calls. -/
def parseN (cf : ByteArray → (Nat → Bool) × Bool) (l : List Int) (ext : Bool) (n : Nat) : Option RR :=
  if 256 < l.length then some (.bad 2 0)
  else match rdR cf l ext n (.re []) 0 0 0 with
    | some (.ok t k g) => if (sg cf l ext k).kd = 5 then some (.ok t k g) else some (.bad 9 k)
    | r => r

theorem sgT_le (l : List Int) (k : Nat) (h : k ≤ l.length) : k + (sgT l k).length ≤ l.length := by
  unfold sgT
  split
  · split
    · simp; omega
    · simp; omega
  · simp; omega
theorem sgT_pos (l : List Int) (k : Nat) (h : k < l.length) : 0 < (sgT l k).length := by
  unfold sgT
  rw [if_pos h]
  split <;> simp
theorem sgT_end (l : List Int) (k : Nat) (h : ¬ k < l.length) : sgT l k = [] := by
  unfold sgT
  rw [if_neg h]
theorem nD_le (l : List Int) (k : Nat) (h : k ≤ l.length) : k + nD l k ≤ l.length := by
  have := (stopN_is (passB (ofBys l) dgtB true k) ((ofBys l).size - k)).1
  unfold nD passN
  rw [ofBys_size] at *
  omega
theorem begAt_le {l : List Int} {k : Nat} {e : List Int} (h : begAt l k e = true) (he : e ≠ []) : k + e.length ≤ l.length := by
  unfold begAt at h
  simp only [decide_eq_true_eq] at h
  have h1 := congrArg List.length h
  rw [List.length_take, List.length_drop] at h1
  have h2 : 0 < e.length := List.length_pos_iff.2 he
  omega
theorem shutT_ne (ext : Bool) : shutT ext ≠ [] := by cases ext <;> simp [shutT]
theorem itv_le {l : List Int} {ext : Bool} {k : Nat} {m n : Int} {k2 : Nat} (h : itv l ext k = some (m, n, k2)) : k2 ≤ l.length := by
  unfold itv at h
  split at h
  · cases h
  split at h
  · rename_i hb
    simp only [Option.some.injEq, Prod.mk.injEq] at h
    have := begAt_le hb (shutT_ne ext)
    omega
  split at h
  · cases h
  split at h
  · rename_i hb
    simp only [Option.some.injEq, Prod.mk.injEq] at h
    have := begAt_le hb (shutT_ne ext)
    omega
  split at h
  · rename_i hb
    simp only [Bool.and_eq_true] at hb
    simp only [Option.some.injEq, Prod.mk.injEq] at h
    have := begAt_le hb.2 (shutT_ne ext)
    omega
  · cases h
theorem itv_ge {l : List Int} {ext : Bool} {k : Nat} {m n : Int} {k2 : Nat} (h : itv l ext k = some (m, n, k2)) : k ≤ k2 := by
  unfold itv at h
  split at h
  · cases h
  split at h
  · simp only [Option.some.injEq, Prod.mk.injEq] at h; omega
  split at h
  · cases h
  split at h
  · simp only [Option.some.injEq, Prod.mk.injEq] at h; omega
  split at h
  · simp only [Option.some.injEq, Prod.mk.injEq] at h; omega
  · cases h
theorem sg_tx (cf : ByteArray → (Nat → Bool) × Bool) (l : List Int) (ext : Bool) (k : Nat) : (sg cf l ext k).tx = sgT l k := by
  apply sg_cases (fun s => s.tx = sgT l k) <;> intros <;> rfl
/-- Where the next sign begins. -/
theorem sg_nx (cf : ByteArray → (Nat → Bool) × Bool) (l : List Int) (ext : Bool) (k : Nat) (h : k ≤ l.length) : k + (sgT l k).length ≤ (sg cf l ext k).nx ∧ (sg cf l ext k).nx ≤ l.length := by
  have h0 := sgT_le l k h
  apply sg_cases (fun s => k + (sgT l k).length ≤ s.nx ∧ s.nx ≤ l.length)
  case h91 =>
    intro p nx _ hb
    have := brkR_gt cf _ _ hb
    rw [ofBys_size, List.length_drop] at this
    exact ⟨by simp, by simp; omega⟩
  case h123 =>
    intro m n k2 _ hi
    exact ⟨itv_ge hi, itv_le hi⟩
  all_goals
    intros
    exact ⟨Nat.le_refl _, h0⟩
theorem role_end (l : List Int) (ext : Bool) (k : Nat) (h : k < l.length) : roleC (sgT l k) ext ≠ 256 := by
  have hp := sgT_pos l k h
  have hne : sgT l k ≠ [] := fun e => by rw [e] at hp; simp at hp
  unfold roleC
  rw [if_neg hne]
  split
  · rename_i hc
    rcases hc with e | e | e <;> rw [e] <;> cases ext <;> decide
  split
  · rename_i hc
    rcases hc with e | e | e | e | e | e <;> rw [e] <;> cases ext <;> decide
  split
  · rename_i hc
    rcases hc with e | e | e | e | e <;> rw [e] <;> decide
  · decide
theorem sg_last (cf : ByteArray → (Nat → Bool) × Bool) (l : List Int) (ext : Bool) (k : Nat) : (sg cf l ext k).kd = 5 → ¬ k < l.length := by
  apply sg_cases (fun s => s.kd = 5 → ¬ k < l.length)
  case h256 =>
    intro h _ _ hk
    exact role_end l ext k hk h
  all_goals
    intros
    rename_i h
    cases h
/-- At the end there is the last sign. -/
theorem sg_end (cf : ByteArray → (Nat → Bool) × Bool) (l : List Int) (ext : Bool) (k : Nat) (h : ¬ k < l.length) : (sg cf l ext k).kd = 5 := by
  have e : roleC (sgT l k) ext = 256 := by rw [sgT_end l k h]; rfl
  unfold sg
  rw [e]
  rfl
/-- A sign that is not the last one has a byte at least. -/
theorem sg_gt (cf : ByteArray → (Nat → Bool) × Bool) (l : List Int) (ext : Bool) (k : Nat) (h : k ≤ l.length) (hk : (sg cf l ext k).kd ≠ 5) : k < (sg cf l ext k).nx := by
  have hlt : k < l.length := by
    rcases Nat.lt_or_ge k l.length with h' | h'
    · exact h'
    · exact absurd (sg_end cf l ext k (by omega)) hk
  have := sgT_pos l k hlt
  have := (sg_nx cf l ext k h).1
  omega
end Go.Proofs.YthmgcebonplcgaaGreatDoor
/- The texts of signs: nextText, role, mayQuote, setOf, anyByte. -/
namespace Go.Proofs.YthmgcebonplcgaaGreatDoor
open Go.RowKit

theorem byt_ofR {l : List Int} (h : ∀ c ∈ l, 0 ≤ c ∧ c ≤ 255) : Byt l := fun i => by
  by_cases hi : i < l.length
  · rw [List.getD_eq_getElem?_getD, List.getElem?_eq_getElem hi]
    exact h _ (List.getElem_mem hi)
  · rw [List.getD_eq_getElem?_getD, List.getElem?_eq_none (by omega)]
    decide
theorem sgT_byt {l : List Int} (h : Byt l) (k : Nat) : Byt (sgT l k) := by
  unfold sgT
  refine byt_ofR fun c hc => ?_
  have a := h k
  have b := h (k + 1)
  split at hc
  · split at hc
    · simp only [List.mem_cons, List.not_mem_nil, or_false] at hc
      rcases hc with rfl | rfl
      · omega
      · exact b
    · rw [List.mem_singleton.1 hc]; exact a
  · cases hc
theorem atB_of {l : List Int} (h : Byt l) (k : Nat) : atB (ofBys l) k = l.getD k 0 := by unfold atB; rw [bys_ofBys h]
set_option maxHeartbeats 4000000 in
theorem nextText_any (cb k : Nat) (l : List Int) (hl : Byt l) (w : World) (h : Cur w cb (ofBys l) k) :
    Calls Tryz.prog 43 #[.pointer (some ⟨cb, 0, none⟩)] w fun x w' => x = .returned (.string (ofBys (sgT l k))) ∧ Mv cb (ofBys l) (k + (sgT l k).length) w w' := by
  have HN := Lib.hid (next_any cb k (ofBys l) w h)
  have hle := h.2.1
  rw [ofBys_size] at hle HN
  rw [atB_of hl] at HN
  clear h
  by_cases hk : k < l.length
  · rw [decide_eq_true hk, if_pos hk] at HN
    have HN2 : Hid (∀ w', Cur w' cb (ofBys l) (k + 1) → Calls Tryz.prog 66 #[.pointer (some ⟨cb, 0, none⟩)] w' fun e w'' => e = .returned (.tuple #[.int .u8 (l.getD (k + 1) 0), .bool (decide (k + 1 < l.length))]) ∧ Mv cb (ofBys l) (if k + 1 < l.length then k + 1 + 1 else k + 1) w' w'') := Lib.hid fun w' h' => by
      have := next_any cb (k + 1) (ofBys l) w' h'
      rw [ofBys_size, atB_of hl] at this
      exact this
    have hb0 := hl k
    have hb1 := hl (k + 1)
    by_cases hk1 : k + 1 < l.length
    · rw [decide_eq_true hk1, if_pos hk1] at HN2
      by_cases h92 : l.getD k 0 = 92
      · have HT : Hid (sgT l k = [92, l.getD (k + 1) 0]) := Lib.hid (by unfold sgT; rw [if_pos hk, if_pos ⟨h92, hk1⟩])
        rw [HT.out]
        rw [h92] at HN
        generalize l.getD (k + 1) 0 = d at *
        have hcv : ∀ X : World, (convert 22 9 (.slice (some ⟨X.heap.size, 0, none⟩) 2 2)).run Tryz.prog (X.alloc (.cells #[.int .u8 92, .int .u8 d] 5)) = .ok (.string (ofBys [92, d])) (X.alloc (.cells #[.int .u8 92, .int .u8 d] 5)) := fun X => by
          refine conv_string (l := [92, d]) ⟨byt_ofR (fun z hz => ?_), by simp, Or.inr ⟨X.heap.size, 0, 2, rfl, Nat.le_refl _, by decide, fun i hi => ?_⟩⟩
          · simp only [List.mem_cons, List.not_mem_nil, or_false] at hz
            rcases hz with rfl | rfl <;> omega
          · have hb := alloc_last X (.cells #[.int .u8 92, .int .u8 d] 5)
            have hi' : i < 2 := hi
            rcases (by omega : i = 0 ∨ i = 1) with rfl | rfl <;> exact (cell_of_row _ _ _ _ _ _ hb).trans rfl
        clear hb0 hb1 hle hk hk1 h92
        go_enter Tryz.func43, Tryz.ntmps43
        go_wp2_with fail
        refine HN.out.mono ?_
        rintro x w1 ⟨rfl, hm1⟩
        have HM1 := Lib.hid hm1
        clear hm1
        go_wp2_with fail
        refine (HN2.out _ HM1.out.cur).mono ?_
        rintro x w2 ⟨rfl, hm2⟩
        have HM2 := Lib.hid (HM1.out.trans hm2)
        clear hm2
        go_wp2
        go_ret
        exact ⟨rfl, HM2.out.alloc _⟩
      · have HT : Hid (sgT l k = [l.getD k 0]) := Lib.hid (by unfold sgT; rw [if_pos hk, if_neg (fun h => h92 h.1)])
        rw [HT.out]
        have HBK : Hid (∀ w', Cur w' cb (ofBys l) (k + 2) → Calls Tryz.prog 67 #[.pointer (some ⟨cb, 0, none⟩), .int .i64 1] w' fun e w'' => e = .returned (.bool true) ∧ Mv cb (ofBys l) (k + 2 - 1) w' w'') := Lib.hid fun w' h' => back_yes cb (k + 2) 1 _ w' h' (by omega)
        have e92 : (l.getD k 0 == 92) = false := beq_eq_false_iff_ne.2 h92
        generalize l.getD k 0 = c at *
        have hcv : ∀ X : World, (convert 22 9 (.slice (some ⟨X.heap.size, 0, none⟩) 1 1)).run Tryz.prog (X.alloc (.cells #[.int .u8 c] 5)) = .ok (.string (ofBys [c])) (X.alloc (.cells #[.int .u8 c] 5)) := fun X => by
          refine conv_string (l := [c]) ⟨byt_ofR (fun z hz => by rw [List.mem_singleton.1 hz]; omega), by simp, Or.inr ⟨X.heap.size, 0, 1, rfl, Nat.le_refl _, by decide, fun i hi => ?_⟩⟩
          have hb := alloc_last X (.cells #[.int .u8 c] 5)
          have hi' : i < 1 := hi
          obtain rfl : i = 0 := by omega
          exact (cell_of_row _ _ _ _ _ _ hb).trans rfl
        clear hb0 hb1 hle hk hk1 h92
        go_enter Tryz.func43, Tryz.ntmps43
        go_wp2_with fail
        refine HN.out.mono ?_
        rintro x w1 ⟨rfl, hm1⟩
        have HM1 := Lib.hid hm1
        clear hm1
        go_wp2_with fail
        refine (HN2.out _ HM1.out.cur).mono ?_
        rintro x w2 ⟨rfl, hm2⟩
        have HM2 := Lib.hid (HM1.out.trans hm2)
        clear hm2
        go_wp2_with fail
        refine (HBK.out _ HM2.out.cur).mono ?_
        rintro x w3 ⟨rfl, hm3⟩
        have HM3 := Lib.hid (HM2.out.trans hm3)
        clear hm3
        go_wp2
        go_ret
        exact ⟨rfl, HM3.out.alloc _⟩
    · rw [decide_eq_false hk1, if_neg hk1] at HN2
      have HT : Hid (sgT l k = [l.getD k 0]) := Lib.hid (by unfold sgT; rw [if_pos hk, if_neg (fun h => hk1 h.2)])
      rw [HT.out]
      generalize l.getD k 0 = c at *
      have hcv : ∀ X : World, (convert 22 9 (.slice (some ⟨X.heap.size, 0, none⟩) 1 1)).run Tryz.prog (X.alloc (.cells #[.int .u8 c] 5)) = .ok (.string (ofBys [c])) (X.alloc (.cells #[.int .u8 c] 5)) := fun X => by
        refine conv_string (l := [c]) ⟨byt_ofR (fun z hz => by rw [List.mem_singleton.1 hz]; omega), by simp, Or.inr ⟨X.heap.size, 0, 1, rfl, Nat.le_refl _, by decide, fun i hi => ?_⟩⟩
        have hb := alloc_last X (.cells #[.int .u8 c] 5)
        have hi' : i < 1 := hi
        obtain rfl : i = 0 := by omega
        exact (cell_of_row _ _ _ _ _ _ hb).trans rfl
      clear hb0 hb1 hle hk hk1
      go_enter Tryz.func43, Tryz.ntmps43
      go_wp2_with fail
      refine HN.out.mono ?_
      rintro x w1 ⟨rfl, hm1⟩
      have HM1 := Lib.hid hm1
      clear hm1
      go_wp2_with fail
      refine (HN2.out _ HM1.out.cur).mono ?_
      rintro x w2 ⟨rfl, hm2⟩
      have HM2 := Lib.hid (HM1.out.trans hm2)
      clear hm2
      go_wp2
      go_ret
      exact ⟨rfl, HM2.out.alloc _⟩
  · rw [decide_eq_false hk, if_neg hk] at HN
    have HT : Hid (sgT l k = []) := Lib.hid (sgT_end l k hk)
    rw [HT.out]
    clear hk hle
    go_enter Tryz.func43, Tryz.ntmps43
    go_wp2_with fail
    refine HN.out.mono ?_
    rintro x w1 ⟨rfl, hm1⟩
    have HM1 := Lib.hid hm1
    clear hm1
    go_wp2
    go_ret
    exact ⟨rfl, HM1.out⟩

/-- What a role is called. -/
def roleS (r : Int) : List Int := if r = 0 then [] else if r = 256 then [101, 110, 100] else [r]
set_option maxHeartbeats 4000000 in
theorem mayQ_any (c : Int) (ext : Bool) (w : World) : Calls Tryz.prog 69 #[.int .u8 c, .bool ext] w fun x w' => x = .returned (.bool (mayQ c ext)) ∧ w' = w := by
  by_cases h1 : c = 40 ∨ c = 41 ∨ c = 43 ∨ c = 63 ∨ c = 123 ∨ c = 125 ∨ c = 124
  · have e : mayQ c ext = ext := by unfold mayQ; rw [if_pos h1]
    rw [e]
    clear e
    rcases h1 with rfl | rfl | rfl | rfl | rfl | rfl | rfl
    all_goals
      cases ext
      all_goals
        go_enter Tryz.func69, Tryz.ntmps69
        go_wp2
        go_ret
        exact ⟨rfl, rfl⟩
  · by_cases h2 : c = 46 ∨ c = 91 ∨ c = 93 ∨ c = 42 ∨ c = 94 ∨ c = 36 ∨ c = 47 ∨ c = 92
    · have e : mayQ c ext = true := by unfold mayQ; rw [if_neg h1]; exact decide_eq_true h2
      rw [e]
      clear e h1
      rcases h2 with rfl | rfl | rfl | rfl | rfl | rfl | rfl | rfl
      all_goals
        go_enter Tryz.func69, Tryz.ntmps69
        go_wp2
        go_ret
        exact ⟨rfl, rfl⟩
    · have e : mayQ c ext = false := by unfold mayQ; rw [if_neg h1]; exact decide_eq_false h2
      rw [e]
      clear e
      simp only [not_or] at h1 h2
      obtain ⟨a1, a2, a3, a4, a5, a6, a7⟩ := h1
      obtain ⟨b1, b2, b3, b4, b5, b6, b7, b8⟩ := h2
      have ea1 := beq_eq_false_iff_ne.2 a1
      have ea2 := beq_eq_false_iff_ne.2 a2
      have ea3 := beq_eq_false_iff_ne.2 a3
      have ea4 := beq_eq_false_iff_ne.2 a4
      have ea5 := beq_eq_false_iff_ne.2 a5
      have ea6 := beq_eq_false_iff_ne.2 a6
      have ea7 := beq_eq_false_iff_ne.2 a7
      have eb1 := beq_eq_false_iff_ne.2 b1
      have eb2 := beq_eq_false_iff_ne.2 b2
      have eb3 := beq_eq_false_iff_ne.2 b3
      have eb4 := beq_eq_false_iff_ne.2 b4
      have eb5 := beq_eq_false_iff_ne.2 b5
      have eb6 := beq_eq_false_iff_ne.2 b6
      have eb7 := beq_eq_false_iff_ne.2 b7
      have eb8 := beq_eq_false_iff_ne.2 b8
      clear a1 a2 a3 a4 a5 a6 a7 b1 b2 b3 b4 b5 b6 b7 b8
      go_enter Tryz.func69, Tryz.ntmps69
      go_wp2
      go_ret
      exact ⟨rfl, rfl⟩
end Go.Proofs.YthmgcebonplcgaaGreatDoor
/- Reading a regular expression always tells; what it tells (pure). -/
namespace Go.Proofs.YthmgcebonplcgaaGreatDoor
open Go.RowKit

theorem rdR_re (cf : ByteArray → (Nat → Bool) × Bool) (l : List Int) (ext : Bool) (n : Nat) (bs : List Nd) (k g o : Nat) : rdR cf l ext (n + 1) (.re bs) k g o =
    match rdR cf l ext n (.br []) k g o with
    | some (.ok b k1 g1) => if (sg cf l ext k1).kd = 4 then rdR cf l ext n (.re (bs ++ [b])) (sg cf l ext k1).nx g1 o else some (.ok (joinN 5 (bs ++ [b])) k1 g1)
    | r => r := by first | (rw [rdR]; done) | (rw [rdR]; rfl)
theorem rdR_br (cf : ByteArray → (Nat → Bool) × Bool) (l : List Int) (ext : Bool) (n : Nat) (items : List Nd) (k g o : Nat) : rdR cf l ext (n + 1) (.br items) k g o =
    if endsB (sg cf l ext k).kd = true then
      (if items = [] then some (.bad (if ext = true ∧ (sg cf l ext k).kd = 3 ∧ o = 0 then 9 else 3) k) else some (.ok (joinN 4 items) k g))
    else if isByt ext (sg cf l ext k) (sg cf l ext (sg cf l ext k).nx).kd items = true then rdR cf l ext n (.br (items ++ [setN (mem (sg cf l ext k).tx)])) (sg cf l ext k).nx g o
    else if (sg cf l ext k).kd = 1 then
      (if endsP items = false then some (.bad 3 k)
      else match (sg cf l ext k).er with
        | some (c, p) => some (.bad c p)
        | none => rdR cf l ext n (.br (repL items (sg cf l ext k).lo (sg cf l ext k).hi)) (sg cf l ext k).nx g o)
    else if (sg cf l ext k).kd = 2 then
      (if g = 9 then some (.bad 5 k)
      else match rdR cf l ext n (.re []) (sg cf l ext k).nx (g + 1) (o + 1) with
        | some (.ok t k1 g1) => if (sg cf l ext k1).kd = 3 then rdR cf l ext n (.br (items ++ [grpN (g + 1 : Nat) t])) (sg cf l ext k1).nx g1 o else some (.bad 9 k1)
        | r => r)
    else match (sg cf l ext k).er with
      | some (c, p) => some (.bad c p)
      | none => rdR cf l ext n (.br (items ++ [(sg cf l ext k).nd])) (sg cf l ext k).nx g o := by first | (rw [rdR]; done) | (rw [rdR]; rfl)

/-- What holds of a result at any place, holds: the one induction over the reader. R: of a result; S: of what a mode begins with. -/
theorem rdR_ind (cf : ByteArray → (Nat → Bool) × Bool) (l : List Int) (ext : Bool) (P : RM → Nat → Nat → Nat → RR → Prop)
    (re_bad : ∀ bs k g o c p, P (.br []) k g o (.bad c p) → P (.re bs) k g o (.bad c p))
    (re_on : ∀ bs k g o b k1 g1 r, P (.br []) k g o (.ok b k1 g1) → (sg cf l ext k1).kd = 4 → P (.re (bs ++ [b])) (sg cf l ext k1).nx g1 o r → P (.re bs) k g o r)
    (re_end : ∀ bs k g o b k1 g1, P (.br []) k g o (.ok b k1 g1) → (sg cf l ext k1).kd ≠ 4 → P (.re bs) k g o (.ok (joinN 5 (bs ++ [b])) k1 g1))
    (br_nil : ∀ k g o, endsB (sg cf l ext k).kd = true → P (.br []) k g o (.bad (if ext = true ∧ (sg cf l ext k).kd = 3 ∧ o = 0 then 9 else 3) k))
    (br_end : ∀ items k g o, endsB (sg cf l ext k).kd = true → items ≠ [] → P (.br items) k g o (.ok (joinN 4 items) k g))
    (br_byt : ∀ items k g o r, endsB (sg cf l ext k).kd = false → isByt ext (sg cf l ext k) (sg cf l ext (sg cf l ext k).nx).kd items = true → P (.br (items ++ [setN (mem (sg cf l ext k).tx)])) (sg cf l ext k).nx g o r → P (.br items) k g o r)
    (br_rep0 : ∀ items k g o, (sg cf l ext k).kd = 1 → endsP items = false → P (.br items) k g o (.bad 3 k))
    (br_rep1 : ∀ items k g o c p, (sg cf l ext k).kd = 1 → endsP items = true → (sg cf l ext k).er = some (c, p) → P (.br items) k g o (.bad c p))
    (br_rep2 : ∀ items k g o r, (sg cf l ext k).kd = 1 → endsP items = true → (sg cf l ext k).er = none → P (.br (repL items (sg cf l ext k).lo (sg cf l ext k).hi)) (sg cf l ext k).nx g o r → P (.br items) k g o r)
    (br_many : ∀ items k g o, (sg cf l ext k).kd = 2 → g = 9 → P (.br items) k g o (.bad 5 k))
    (br_gbad : ∀ items k g o c p, (sg cf l ext k).kd = 2 → g ≠ 9 → P (.re []) (sg cf l ext k).nx (g + 1) (o + 1) (.bad c p) → P (.br items) k g o (.bad c p))
    (br_gno : ∀ items k g o t k1 g1, (sg cf l ext k).kd = 2 → g ≠ 9 → P (.re []) (sg cf l ext k).nx (g + 1) (o + 1) (.ok t k1 g1) → (sg cf l ext k1).kd ≠ 3 → P (.br items) k g o (.bad 9 k1))
    (br_gyes : ∀ items k g o t k1 g1 r, (sg cf l ext k).kd = 2 → g ≠ 9 → P (.re []) (sg cf l ext k).nx (g + 1) (o + 1) (.ok t k1 g1) → (sg cf l ext k1).kd = 3 → P (.br (items ++ [grpN (g + 1 : Nat) t])) (sg cf l ext k1).nx g1 o r → P (.br items) k g o r)
    (br_err : ∀ items k g o c p, endsB (sg cf l ext k).kd = false → (sg cf l ext k).kd ≠ 1 → (sg cf l ext k).kd ≠ 2 → (sg cf l ext k).er = some (c, p) → P (.br items) k g o (.bad c p))
    (br_item : ∀ items k g o r, endsB (sg cf l ext k).kd = false → (sg cf l ext k).kd ≠ 1 → (sg cf l ext k).kd ≠ 2 → (sg cf l ext k).er = none → isByt ext (sg cf l ext k) (sg cf l ext (sg cf l ext k).nx).kd items = false → P (.br (items ++ [(sg cf l ext k).nd])) (sg cf l ext k).nx g o r → P (.br items) k g o r) :
    ∀ n md k g o r, rdR cf l ext n md k g o = some r → P md k g o r := by
  intro n
  induction n with
  | zero => intro md k g o r h; simp [rdR] at h
  | succ n ih =>
    intro md k g o r h
    cases md with
    | re bs =>
      rw [rdR_re] at h
      cases hb : rdR cf l ext n (.br []) k g o with
      | none => rw [hb] at h; cases h
      | some x =>
        rw [hb] at h
        have hp := ih _ _ _ _ _ hb
        cases x with
        | bad c p =>
          simp only [Option.some.injEq] at h
          subst h
          exact re_bad _ _ _ _ _ _ hp
        | ok b k1 g1 =>
          dsimp only at h
          by_cases h4 : (sg cf l ext k1).kd = 4
          · rw [if_pos h4] at h
            exact re_on _ _ _ _ _ _ _ _ hp h4 (ih _ _ _ _ _ h)
          · rw [if_neg h4] at h
            simp only [Option.some.injEq] at h
            subst h
            exact re_end _ _ _ _ _ _ _ hp h4
    | br items =>
      rw [rdR_br] at h
      by_cases he : endsB (sg cf l ext k).kd = true
      · rw [if_pos he] at h
        by_cases hi : items = []
        · rw [if_pos hi] at h
          simp only [Option.some.injEq] at h
          subst h
          subst hi
          exact br_nil _ _ _ he
        · rw [if_neg hi] at h
          simp only [Option.some.injEq] at h
          subst h
          exact br_end _ _ _ _ he hi
      rw [if_neg he] at h
      have he' : endsB (sg cf l ext k).kd = false := by simpa using he
      by_cases hb : isByt ext (sg cf l ext k) (sg cf l ext (sg cf l ext k).nx).kd items = true
      · rw [if_pos hb] at h
        exact br_byt _ _ _ _ _ he' hb (ih _ _ _ _ _ h)
      rw [if_neg hb] at h
      by_cases h1 : (sg cf l ext k).kd = 1
      · rw [if_pos h1] at h
        by_cases hp : endsP items = false
        · rw [if_pos hp] at h
          simp only [Option.some.injEq] at h
          subst h
          exact br_rep0 _ _ _ _ h1 hp
        · rw [if_neg hp] at h
          have hp' : endsP items = true := by simpa using hp
          cases hx : (sg cf l ext k).er with
          | some cp =>
            obtain ⟨c, p⟩ := cp
            rw [hx] at h
            simp only [Option.some.injEq] at h
            subst h
            exact br_rep1 _ _ _ _ _ _ h1 hp' hx
          | none =>
            rw [hx] at h
            exact br_rep2 _ _ _ _ _ h1 hp' hx (ih _ _ _ _ _ h)
      rw [if_neg h1] at h
      by_cases h2 : (sg cf l ext k).kd = 2
      · rw [if_pos h2] at h
        by_cases h9 : g = 9
        · rw [if_pos h9] at h
          simp only [Option.some.injEq] at h
          subst h
          exact br_many _ _ _ _ h2 h9
        · rw [if_neg h9] at h
          cases hr : rdR cf l ext n (.re []) (sg cf l ext k).nx (g + 1) (o + 1) with
          | none => rw [hr] at h; cases h
          | some x =>
            rw [hr] at h
            have hp := ih _ _ _ _ _ hr
            cases x with
            | bad c p =>
              simp only [Option.some.injEq] at h
              subst h
              exact br_gbad _ _ _ _ _ _ h2 h9 hp
            | ok t k1 g1 =>
              dsimp only at h
              by_cases h3 : (sg cf l ext k1).kd = 3
              · rw [if_pos h3] at h
                exact br_gyes _ _ _ _ _ _ _ _ h2 h9 hp h3 (ih _ _ _ _ _ h)
              · rw [if_neg h3] at h
                simp only [Option.some.injEq] at h
                subst h
                exact br_gno _ _ _ _ _ _ _ h2 h9 hp h3
      rw [if_neg h2] at h
      cases hx : (sg cf l ext k).er with
      | some cp =>
        obtain ⟨c, p⟩ := cp
        rw [hx] at h
        simp only [Option.some.injEq] at h
        subst h
        exact br_err _ _ _ _ _ _ he' h1 h2 hx
      | none =>
        rw [hx] at h
        exact br_item _ _ _ _ _ he' h1 h2 hx (by simpa using hb) (ih _ _ _ _ _ h)

theorem not_end {kd : Nat} (h : endsB kd = false) : kd ≠ 3 ∧ kd ≠ 4 ∧ kd ≠ 5 := by
  unfold endsB at h
  simp only [Bool.or_eq_false_iff, beq_eq_false_iff_ne] at h
  exact ⟨h.1.1, h.1.2, h.2⟩
theorem is_end {kd : Nat} (h : endsB kd = true) : kd = 3 ∨ kd = 4 ∨ kd = 5 := by
  unfold endsB at h
  simp only [Bool.or_eq_true, beq_iff_eq] at h
  omega
/-- Places only rise. -/
theorem rdR_le (cf : ByteArray → (Nat → Bool) × Bool) (l : List Int) (ext : Bool) (n : Nat) (md : RM) (k g o : Nat) (t : Nd) (k1 g1 : Nat) (h : rdR cf l ext n md k g o = some (.ok t k1 g1)) (hk : k ≤ l.length) : k ≤ k1 ∧ k1 ≤ l.length := by
  have key := rdR_ind cf l ext (fun _ k _ _ r => k ≤ l.length → ∀ t k1 g1, r = .ok t k1 g1 → k ≤ k1 ∧ k1 ≤ l.length) ?_ ?_ ?_ ?_ ?_ ?_ ?_ ?_ ?_ ?_ ?_ ?_ ?_ ?_ ?_ n md k g o _ h
  · exact key hk t k1 g1 rfl
  · intro bs k g o c p _ _ t k1 g1 e; cases e
  · intro bs k g o b k1 g1 r h1 _ h2 hk t k2 g2 e
    have a := h1 hk _ _ _ rfl
    have b := sg_nx cf l ext k1 a.2
    have c := h2 b.2 _ _ _ e
    omega
  · intro bs k g o b k1 g1 h1 _ hk t k2 g2 e
    cases e
    exact h1 hk _ _ _ rfl
  · intro k g o _ _ t k1 g1 e; cases e
  · intro items k g o _ _ hk t k1 g1 e
    cases e
    exact ⟨Nat.le_refl _, hk⟩
  · intro items k g o r _ _ h2 hk t k1 g1 e
    have b := sg_nx cf l ext k hk
    have c := h2 b.2 _ _ _ e
    omega
  · intro items k g o _ _ _ t k1 g1 e; cases e
  · intro items k g o c p _ _ _ _ t k1 g1 e; cases e
  · intro items k g o r _ _ _ h2 hk t k1 g1 e
    have b := sg_nx cf l ext k hk
    have c := h2 b.2 _ _ _ e
    omega
  · intro items k g o _ _ _ t k1 g1 e; cases e
  · intro items k g o c p _ _ _ _ t k1 g1 e; cases e
  · intro items k g o t k1 g1 _ _ _ _ _ t' k2 g2 e; cases e
  · intro items k g o t k1 g1 r _ _ h1 _ h2 hk t' k2 g2 e
    have a := sg_nx cf l ext k hk
    have b := h1 a.2 _ _ _ rfl
    have c := sg_nx cf l ext k1 b.2
    have d := h2 c.2 _ _ _ e
    omega
  · intro items k g o c p _ _ _ _ _ t k1 g1 e; cases e
  · intro items k g o r _ _ _ _ _ h2 hk t k1 g1 e
    have b := sg_nx cf l ext k hk
    have c := h2 b.2 _ _ _ e
    omega
def muR (l : List Int) : RM → Nat → Nat
  | .re _, k => 2 * (l.length - k) + 2
  | .br _, k => 2 * (l.length - k) + 1
/-- With fuel enough it tells. -/
theorem rdR_some (cf : ByteArray → (Nat → Bool) × Bool) (l : List Int) (ext : Bool) : ∀ n md k g o, k ≤ l.length → muR l md k ≤ n → ∃ r, rdR cf l ext n md k g o = some r := by
  intro n
  induction n with
  | zero => intro md k g o _ h; cases md <;> simp [muR] at h
  | succ n ih =>
    intro md k g o hk h
    cases md with
    | re bs =>
      simp only [muR] at h
      rw [rdR_re]
      obtain ⟨x, hx⟩ := ih (.br []) k g o hk (by simp only [muR]; omega)
      rw [hx]
      cases x with
      | bad c p => exact ⟨_, rfl⟩
      | ok b k1 g1 =>
        dsimp only
        by_cases h4 : (sg cf l ext k1).kd = 4
        · rw [if_pos h4]
          have a := rdR_le cf l ext _ _ _ _ _ _ _ _ hx hk
          have b := sg_nx cf l ext k1 a.2
          have c := sg_gt cf l ext k1 a.2 (by omega)
          exact ih _ _ _ _ b.2 (by simp only [muR]; omega)
        · rw [if_neg h4]; exact ⟨_, rfl⟩
    | br items =>
      simp only [muR] at h
      rw [rdR_br]
      by_cases he : endsB (sg cf l ext k).kd = true
      · rw [if_pos he]
        split <;> exact ⟨_, rfl⟩
      rw [if_neg he]
      have hn := not_end (kd := (sg cf l ext k).kd) (by simpa using he)
      have b := sg_nx cf l ext k hk
      have c := sg_gt cf l ext k hk hn.2.2
      split
      · exact ih _ _ _ _ b.2 (by simp only [muR]; omega)
      split
      · split
        · exact ⟨_, rfl⟩
        split
        · exact ⟨_, rfl⟩
        · exact ih _ _ _ _ b.2 (by simp only [muR]; omega)
      split
      · split
        · exact ⟨_, rfl⟩
        obtain ⟨x, hx⟩ := ih (.re []) (sg cf l ext k).nx (g + 1) (o + 1) b.2 (by simp only [muR]; omega)
        rw [hx]
        cases x with
        | bad c p => exact ⟨_, rfl⟩
        | ok t k1 g1 =>
          dsimp only
          by_cases h3 : (sg cf l ext k1).kd = 3
          · rw [if_pos h3]
            have a1 := rdR_le cf l ext _ _ _ _ _ _ _ _ hx b.2
            have b1 := sg_nx cf l ext k1 a1.2
            exact ih _ _ _ _ b1.2 (by simp only [muR]; omega)
          · rw [if_neg h3]; exact ⟨_, rfl⟩
      split
      · exact ⟨_, rfl⟩
      · exact ih _ _ _ _ b.2 (by simp only [muR]; omega)
def fuelR (l : List Int) : Nat := 2 * l.length + 2
theorem parseN_some (cf : ByteArray → (Nat → Bool) × Bool) (l : List Int) (ext : Bool) : ∃ r, parseN cf l ext (fuelR l) = some r := by
  unfold parseN
  split
  · exact ⟨_, rfl⟩
  obtain ⟨r, hr⟩ := rdR_some cf l ext (fuelR l) (.re []) 0 0 0 (Nat.zero_le _) (by simp [muR, fuelR])
  rw [hr]
  cases r with
  | bad c p => exact ⟨_, rfl⟩
  | ok t k g => dsimp only; split <;> exact ⟨_, rfl⟩
end Go.Proofs.YthmgcebonplcgaaGreatDoor
/- The reader's own errors: refuse, langOf, told (gen_reerr.py). -/
namespace Go.Proofs.YthmgcebonplcgaaGreatDoor
open Go.RowKit

/-- An error that knows its place alone. -/
def ErrR (w : World) (e : Nat → Addr) (c : Nat) (p : Int) (v : Value) : Prop := ∃ k, v = .iface 71 (.pointer (some ⟨k, 0, none⟩)) ∧ w.heap[k]? = some (.cells #[bot (e c), .int .i64 p] 76)
def langR (ext : Bool) : Int := if ext then 4 else 3
/-- An error that the reader met: one of its own, or a bracket's. -/
def ErrQ (w : World) (e : Nat → Addr) (ext : Bool) (c : Nat) (p : Int) (v : Value) : Prop := ErrR w e c p v ∨ ErrS w 0 e (langR ext) c p v
/-- It stays where the blocks of its types do. -/
theorem ErrQ.kept {w w' : World} {e : Nat → Addr} {ext : Bool} {c : Nat} {p : Int} {v : Value} (h : ErrQ w e ext c p v) (hz : w.heap.size ≤ w'.heap.size)
    (hk : ∀ (k : Nat) (cs : Array Value) (T : TypeId), (T = 76 ∨ T = 68 ∨ T = 63) → w.heap[k]? = some (.cells cs T (0, 0)) → w'.heap[k]? = w.heap[k]?) : ErrQ w' e ext c p v := by
  rcases h with ⟨k, rfl, h1⟩ | ⟨k, j, rfl, k1, k2, j1, j2, h1, h2⟩
  · exact Or.inl ⟨k, rfl, (hk k _ _ (Or.inl rfl) h1).trans h1⟩
  · exact Or.inr ⟨k, j, rfl, k1, Nat.lt_of_lt_of_le k2 hz, j1, Nat.lt_of_lt_of_le j2 hz, (hk k _ _ (Or.inr (Or.inl rfl)) h1).trans h1, (hk j _ _ (Or.inr (Or.inr rfl)) h2).trans h2⟩
theorem ErrQ.below {w w' : World} {e : Nat → Addr} {ext : Bool} {c : Nat} {p : Int} {v : Value} (h : ErrQ w e ext c p v) (hb : Below w.heap.size w w') : ErrQ w' e ext c p v :=
  h.kept hb.size fun k _ _ _ hc => hb.block k (lt_blkB hc)

set_option maxHeartbeats 4000000 in
theorem reOf_any (e : Nat → Addr) (B : Nat) (w : World) (hs : Es w B e) (k : Nat) (h : k = 2 ∨ k = 3 ∨ k = 5 ∨ k = 7 ∨ k = 9 ∨ k = 10) :
    Calls Tryz.prog 25 #[.int .i64 k] w fun x w' => x = .returned (bot (e k)) ∧ w' = w := by
  have hv := hs.var k (by omega) (by omega)
  have HS := Lib.hid hs
  clear hs
  unfold bot
  rcases h with rfl | rfl | rfl | rfl | rfl | rfl
  all_goals
    try simp only [Nat.reduceSub] at hv
    go_enter Tryz.func25, Tryz.ntmps25
    go_wp2
    go_ret
    exact ⟨rfl, rfl⟩
set_option maxHeartbeats 4000000 in
theorem refz_any (e : Nat → Addr) (B : Nat) (w : World) (hs : Es w B e) (c : Nat) (p : Int) (h : c = 2 ∨ c = 3 ∨ c = 5 ∨ c = 7 ∨ c = 9 ∨ c = 10) :
    Calls Tryz.prog 13 #[.int .i64 c, .int .i64 p] w fun x w' => x = .returned (.iface 71 (.pointer (some ⟨w.heap.size, 0, none⟩))) ∧ w' = w.alloc (.cells #[bot (e c), .int .i64 p] 76) := by
  have HO := Lib.hid (reOf_any e B w hs c h)
  unfold bot at *
  clear h hs
  go_enter Tryz.func13, Tryz.ntmps13
  go_wp2_with (go_at_call 25; refine HO.out.mono ?_; rintro x w' ⟨rfl, rfl⟩)
  go_ret
  exact ⟨rfl, rfl⟩
theorem refz_err (e : Nat → Addr) (ext : Bool) (B : Nat) (w : World) (hs : Es w B e) (c : Nat) (p : Int) (h : c = 2 ∨ c = 3 ∨ c = 5 ∨ c = 7 ∨ c = 9 ∨ c = 10) :
    Calls Tryz.prog 13 #[.int .i64 c, .int .i64 p] w fun x w' => ∃ k, x = .returned (.iface 71 (.pointer (some ⟨k, 0, none⟩))) ∧ ErrQ w' e ext c p (.iface 71 (.pointer (some ⟨k, 0, none⟩))) ∧ Below w.heap.size w w' := by
  refine (refz_any e B w hs c p h).mono ?_
  rintro x w' ⟨rfl, rfl⟩
  exact ⟨_, rfl, Or.inl ⟨_, rfl, alloc_last w _⟩, (Below.refl _ _).alloc (Nat.le_refl _) _⟩
theorem langOf_any (ext : Bool) (w : World) : Calls Tryz.prog 24 #[.bool ext] w fun x w' => x = .returned (.int .i64 (langR ext)) ∧ w' = w := by
  cases ext
  all_goals
    go_enter Tryz.func24, Tryz.ntmps24
    go_wp2
    go_ret
    exact ⟨rfl, rfl⟩
/-- errors' own variable: the type of errors. -/
def Ety (w : World) : Prop := w.cell? ⟨0, 0, none⟩ = some (.iface 122 (.agg #[.pointer (some ⟨29, 26, none⟩)]))
theorem Ety.below {w w' : World} (h : Ety w) (hb : Below w.heap.size w w') : Ety w' := ety_keep h hb

set_option maxRecDepth 100000 in
set_option maxHeartbeats 4000000 in
theorem told_s (e : Nat → Addr) (ext : Bool) (c : Nat) (p : Int) (v : Value) (w : World) (ht : Ety w) (h : ErrS w 0 e (langR ext) c p v) :
    Calls Tryz.prog 12 #[v, .bool ext] w fun x w' => x = .returned v ∧ Below w.heap.size w w' := by
  obtain ⟨kk, rfl⟩ := h.iface
  have hb1 : Below w.heap.size w (w.alloc (.cells #[.pointer none] 71)) := (Below.refl _ _).alloc (Nat.le_refl _) _
  have HA := Lib.hid (eas_missR _ _ (e c) ⟨w.heap.size, 0, none⟩ (.pointer none) w (w.alloc (.cells #[.pointer none] 71)) hb1 (ht.below hb1) h.chn (by simp) (by simp))
  have HB := Lib.hid hb1
  clear h ht hb1
  go_enter Tryz.func12, Tryz.ntmps12
  go_wp2_with fail
  refine HA.out.mono ?_
  rintro x w1 ⟨rfl, hb⟩
  have HB1 := Lib.hid (Below.step HB.out hb)
  clear hb
  go_wp2
  go_ret
  exact ⟨rfl, HB1.out⟩

set_option maxRecDepth 100000 in
set_option maxHeartbeats 8000000 in
theorem told_r (e : Nat → Addr) (ext : Bool) (c : Nat) (p : Int) (v : Value) (w : World) (ht : Ety w) (h : ErrR w e c p v) :
    Calls Tryz.prog 12 #[v, .bool ext] w fun x w' => ∃ v', x = .returned v' ∧ ErrS w' w.heap.size e (langR ext) c p v' ∧ Below w.heap.size w w' := by
  obtain ⟨kk, rfl, hk⟩ := h
  have hkl := lt_blkB hk
  have hb1 : Below w.heap.size w (w.alloc (.cells #[.pointer none] 71)) := (Below.refl _ _).alloc (Nat.le_refl _) _
  have HA := Lib.hid (eas_hitR kk ⟨w.heap.size, 0, none⟩ (.pointer none) (w.alloc (.cells #[.pointer none] 71)) (ht.below hb1) (by simp) (by simp))
  have HB := Lib.hid hb1
  have HK := Lib.hid hk
  clear hk ht hb1
  go_enter Tryz.func12, Tryz.ntmps12
  go_wp2_with fail
  refine HA.out.mono ?_
  rintro x w1 ⟨rfl, w2, hb, rfl⟩
  have HB2 := Lib.hid (Below.step HB.out hb)
  have hob : w2.heap[w.heap.size]? = some (.cells #[.pointer none] 71) := (hb.block w.heap.size (by simp)).trans (alloc_last w _)
  have hkb : w2.heap[kk]? = some (.cells #[bot (e c), .int .i64 p] 76) := (HB2.out.block kk hkl).trans HK.out
  have hne : kk ≠ w.heap.size := Nat.ne_of_lt hkl
  obtain ⟨W, hW⟩ : ∃ W, W = w2.setCell ⟨w.heap.size, 0, none⟩ (.pointer (some ⟨kk, 0, none⟩)) := ⟨_, rfl⟩
  rw [← hW]
  have HO : Hid (W.cell? ⟨w.heap.size, 0, none⟩ = some (.pointer (some ⟨kk, 0, none⟩))) := Lib.hid (by
    rw [hW]
    show (match (w2.heap.modify w.heap.size _)[w.heap.size]? with | some (.cells cs _ _) => cs[0]? | _ => none) = _
    rw [Array.getElem?_modify, if_pos rfl, hob]
    rfl)
  have HKW : Hid (W.heap[kk]? = some (.cells #[bot (e c), .int .i64 p] 76)) := Lib.hid (by rw [hW, Below.heap_setCell _ _ _ _ hne]; exact hkb)
  have HBW : Hid (Below w.heap.size w W) := Lib.hid (by rw [hW]; exact HB2.out.setCell (Nat.le_refl _) _)
  clear hW hb hob hkb
  go_wp2_with fail
  refine Reg.wp_region_vals (fun X => Below w.heap.size w X ∧ X.cell? ⟨w.heap.size, 0, none⟩ = some (.pointer (some ⟨kk, 0, none⟩)) ∧ X.heap[kk]? = some (.cells #[bot (e c), .int .i64 p] 76)) (fun j => ([some (.pointer (some ⟨kk, 0, none⟩)), some (.pointer (some ⟨kk, 0, none⟩)), some (.pointer (some ⟨kk, 0, none⟩)), some (bot (e c)), some (.pointer (some ⟨kk, 0, none⟩)), some (.pointer (some ⟨kk, 0, none⟩)), some (.pointer (some ⟨kk, 1, none⟩)), some (.int .i64 p), none, some (.bool ext), some (.int .i64 (langR ext)), none, none] : List (Option Value)).getD j none) (fun j x X => if j = 8 then ∃ b, x = .iface 59 (.pointer (some ⟨b, 0, none⟩)) ∧ w.heap.size ≤ b ∧ b < X.heap.size ∧ X.heap[b]? = some (.cells #[bot (e c), .int .i64 p] 63) else ErrS X w.heap.size e (langR ext) c p x) (by kernel_rfl) (by kernel_rfl) (by kernel_rfl) (by kernel_rfl) ?rs0 ?rsE ?rsZ
  case rs0 => exact ⟨HBW.out.drew, HO.out, HKW.out⟩
  case rsE =>
    refine Reg.EachV.plain rfl (fun T X hS hk K hK => ?_) ?_
    · skip
      have g5 : T[5]? = some (.pointer (some ⟨w.heap.size, 0, none⟩)) := hk.old 5 (by kernel_rfl) rfl
      have y := hS.2.1
      have hK := hK _ X hS (Reg.Is.of_val rfl) (fun _ _ _ h => h)
      clear hk
      go_simp
      exact hK
    refine Reg.EachV.plain rfl (fun T X hS hk K hK => ?_) ?_
    · skip
      have g11 : T[11]? = some (.pointer (some ⟨kk, 0, none⟩)) := hk.val 0 11 (by kernel_rfl) (by kernel_rfl) rfl
      have hkz := lt_blkB hS.2.2
      have hK := hK _ X hS (Reg.Is.of_val rfl) (fun _ _ _ h => h)
      clear hk
      go_simp
      exact hK
    refine Reg.EachV.plain rfl (fun T X hS hk K hK => ?_) ?_
    · skip
      have g12 : T[12]? = some (.pointer (some ⟨kk, 0, none⟩)) := hk.val 1 12 (by kernel_rfl) (by kernel_rfl) rfl
      have hkz := lt_blkB hS.2.2
      have hK := hK _ X hS (Reg.Is.of_val rfl) (fun _ _ _ h => h)
      clear hk
      go_simp
      exact hK
    refine Reg.EachV.plain rfl (fun T X hS hk K hK => ?_) ?_
    · skip
      have g13 : T[13]? = some (.pointer (some ⟨kk, 0, none⟩)) := hk.val 2 13 (by kernel_rfl) (by kernel_rfl) rfl
      have y := Lib.cell_of_heap hS.2.2 0
      have hkz := lt_blkB hS.2.2
      rw [show (#[bot (e c), Value.int .i64 p] : Array Value)[0]? = some (bot (e c)) from rfl] at y
      have hK := hK _ X hS (Reg.Is.of_val rfl) (fun _ _ _ h => h)
      clear hk
      go_simp
      exact hK
    refine Reg.EachV.plain rfl (fun T X hS hk K hK => ?_) ?_
    · skip
      have g5 : T[5]? = some (.pointer (some ⟨w.heap.size, 0, none⟩)) := hk.old 5 (by kernel_rfl) rfl
      have y := hS.2.1
      have hK := hK _ X hS (Reg.Is.of_val rfl) (fun _ _ _ h => h)
      clear hk
      go_simp
      exact hK
    refine Reg.EachV.plain rfl (fun T X hS hk K hK => ?_) ?_
    · skip
      have g15 : T[15]? = some (.pointer (some ⟨kk, 0, none⟩)) := hk.val 4 15 (by kernel_rfl) (by kernel_rfl) rfl
      have hkz := lt_blkB hS.2.2
      have hK := hK _ X hS (Reg.Is.of_val rfl) (fun _ _ _ h => h)
      clear hk
      go_simp
      exact hK
    refine Reg.EachV.plain rfl (fun T X hS hk K hK => ?_) ?_
    · skip
      have g16 : T[16]? = some (.pointer (some ⟨kk, 0, none⟩)) := hk.val 5 16 (by kernel_rfl) (by kernel_rfl) rfl
      have hkz := lt_blkB hS.2.2
      have hK := hK _ X hS (Reg.Is.of_val rfl) (fun _ _ _ h => h)
      clear hk
      go_simp
      exact hK
    refine Reg.EachV.plain rfl (fun T X hS hk K hK => ?_) ?_
    · skip
      have g17 : T[17]? = some (.pointer (some ⟨kk, 1, none⟩)) := hk.val 6 17 (by kernel_rfl) (by kernel_rfl) rfl
      have y := Lib.cell_of_heap hS.2.2 1
      have hkz := lt_blkB hS.2.2
      rw [show (#[bot (e c), Value.int .i64 p] : Array Value)[1]? = some (Value.int .i64 p) from rfl] at y
      have hK := hK _ X hS (Reg.Is.of_val rfl) (fun _ _ _ h => h)
      clear hk
      go_simp
      exact hK
    refine Reg.EachV.plain rfl (fun T X hS hk K hK => ?_) ?_
    · skip
      have g14 : T[14]? = some (bot (e c)) := hk.val 3 14 (by kernel_rfl) (by kernel_rfl) rfl
      have g18 : T[18]? = some (.int .i64 p) := hk.val 7 18 (by kernel_rfl) (by kernel_rfl) rfl
      unfold bot at g14
      clear hk
      go_simp
      refine (esWrap_At _ _ _ _).mono ?_
      rintro x w1 ⟨rfl, rfl⟩
      have hb : Below X.heap.size X (X.alloc (.cells #[bot (e c), .int .i64 p] 63)) := (Below.refl _ _).alloc (Nat.le_refl _) _
      refine hK _ _ ⟨below_thn hS.1 (Nat.le_refl _) hb, (hb.cell (World.block_lt_of_cell? _ _ hS.2.1)).trans hS.2.1, (hb.block kk (lt_blkB hS.2.2)).trans hS.2.2⟩ (Reg.Is.of_prop rfl ?_) (by intro j x hj hx; by_cases h3 : j = 8; (rw [if_pos h3] at hx ⊢; obtain ⟨b, rfl, b1, b2, b3⟩ := hx; exact ⟨b, rfl, b1, Nat.lt_of_lt_of_le b2 hb.size, (hb.block b b2).trans b3⟩); (rw [if_neg h3] at hx ⊢; exact ErrS.below hx hb))
      try dsimp only
      rw [if_pos rfl]
      exact ⟨_, rfl, hS.1.size, by simp, alloc_last _ _⟩
    refine Reg.EachV.plain rfl (fun T X hS hk K hK => ?_) ?_
    · skip
      have g1 : T[1]? = some (.bool ext) := hk.old 1 (by kernel_rfl) rfl
      have hK := hK _ X hS (Reg.Is.of_val rfl) (fun _ _ _ h => h)
      clear hk
      go_simp
      exact hK
    refine Reg.EachV.plain rfl (fun T X hS hk K hK => ?_) ?_
    · skip
      have g20 : T[20]? = some (.bool ext) := hk.val 9 20 (by kernel_rfl) (by kernel_rfl) rfl
      clear hk
      go_simp
      refine (langOf_any ext _).mono ?_
      rintro x w1 ⟨rfl, rfl⟩
      exact hK _ _ (hS) (Reg.Is.of_val rfl) (fun _ _ _ h => h)
    refine Reg.EachV.plain rfl (fun T X hS hk K hK => ?_) ?_
    · skip
      obtain ⟨x19, g19, r19⟩ := hk.prop 8 19 (by kernel_rfl) (by kernel_rfl) rfl
      have g21 : T[21]? = some (.int .i64 (langR ext)) := hk.val 10 21 (by kernel_rfl) (by kernel_rfl) rfl
      try dsimp only at r19
      rw [if_pos rfl] at r19
      obtain ⟨b, rfl, b1, b2, b3⟩ := r19
      clear hk
      go_simp
      refine (esWrap_In _ _ _ _).mono ?_
      rintro x w1 ⟨rfl, rfl⟩
      have hb : Below X.heap.size X (X.alloc (.cells #[.iface 59 (.pointer (some ⟨b, 0, none⟩)), .int .i64 (langR ext)] 68)) := (Below.refl _ _).alloc (Nat.le_refl _) _
      refine hK _ _ ⟨below_thn hS.1 (Nat.le_refl _) hb, (hb.cell (World.block_lt_of_cell? _ _ hS.2.1)).trans hS.2.1, (hb.block kk (lt_blkB hS.2.2)).trans hS.2.2⟩ (Reg.Is.of_prop rfl ?_) (by intro j x hj hx; by_cases h3 : j = 8; (rw [if_pos h3] at hx ⊢; obtain ⟨b, rfl, b1, b2, b3⟩ := hx; exact ⟨b, rfl, b1, Nat.lt_of_lt_of_le b2 hb.size, (hb.block b b2).trans b3⟩); (rw [if_neg h3] at hx ⊢; exact ErrS.below hx hb))
      try dsimp only
      rw [if_neg (by decide)]
      exact ⟨X.heap.size, b, rfl, hS.1.size, by simp, b1, by simp; omega, alloc_last _ _, (hb.block b b2).trans b3⟩
    refine Reg.EachV.plain rfl (fun T X hS hk K hK => ?_) ?_
    · skip
      obtain ⟨x22, g22, r22⟩ := hk.prop 11 22 (by kernel_rfl) (by kernel_rfl) rfl
      clear hk
      have hK := hK x22 X hS (Reg.Is.of_prop rfl r22) (fun _ _ _ h => h)
      go_simp
      exact hK
    exact Reg.EachV.nil
  case rsZ =>
    intro u w1 hS hI
    have e0 : u 0 = .pointer (some ⟨kk, 0, none⟩) := (hI 0 (by decide)).val rfl
    have e1 : u 1 = .pointer (some ⟨kk, 0, none⟩) := (hI 1 (by decide)).val rfl
    have e2 : u 2 = .pointer (some ⟨kk, 0, none⟩) := (hI 2 (by decide)).val rfl
    have e3 : u 3 = bot (e c) := (hI 3 (by decide)).val rfl
    have e4 : u 4 = .pointer (some ⟨kk, 0, none⟩) := (hI 4 (by decide)).val rfl
    have e5 : u 5 = .pointer (some ⟨kk, 0, none⟩) := (hI 5 (by decide)).val rfl
    have e6 : u 6 = .pointer (some ⟨kk, 1, none⟩) := (hI 6 (by decide)).val rfl
    have e7 : u 7 = .int .i64 p := (hI 7 (by decide)).val rfl
    have e8 := (hI 8 (by decide)).prop rfl
    have e9 : u 9 = .bool ext := (hI 9 (by decide)).val rfl
    have e10 : u 10 = .int .i64 (langR ext) := (hI 10 (by decide)).val rfl
    have e11 := (hI 11 (by decide)).prop rfl
    have e12 := (hI 12 (by decide)).prop rfl
    clear hI
    simp only [Reg.putAll, Act.put, List.setIfInBounds_toArray, List.set_cons_succ, List.set_cons_zero, Nat.zero_add, Nat.reduceAdd, e0, e1, e2, e3, e4, e5, e6, e7, e9, e10]
    clear e0 e1 e2 e3 e4 e5 e6 e7 e9 e10
    try dsimp only at e12
    rw [if_neg (by decide)] at e12
    generalize u 12 = x12 at *
    have HBE := Lib.hid hS.1
    have HE := Lib.hid e12
    clear hS e12 e8 e11
    go_wp2
    go_ret
    exact ⟨_, rfl, HE.out, HBE.out⟩

/-- told. -/
theorem told_any (e : Nat → Addr) (ext : Bool) (c : Nat) (p : Int) (v : Value) (w : World) (ht : Ety w) (h : ErrQ w e ext c p v) :
    Calls Tryz.prog 12 #[v, .bool ext] w fun x w' => ∃ k, x = .returned (.iface 64 (.pointer (some ⟨k, 0, none⟩))) ∧ ErrS w' 0 e (langR ext) c p (.iface 64 (.pointer (some ⟨k, 0, none⟩))) ∧ Below w.heap.size w w' := by
  rcases h with h | h
  · refine (told_r e ext c p v w ht h).mono ?_
    rintro x w' ⟨v', rfl, h1, h2⟩
    obtain ⟨k, rfl⟩ := h1.iface
    exact ⟨k, rfl, h1.lower (Nat.zero_le _), h2⟩
  · obtain ⟨k, rfl⟩ := h.iface
    refine (told_s e ext c p _ w ht h).mono ?_
    rintro x w' ⟨rfl, h2⟩
    exact ⟨k, rfl, h.below h2, h2⟩
end Go.Proofs.YthmgcebonplcgaaGreatDoor
/- Where a regular expression is wrong, and how; what it has when it is right (pure). -/
namespace Go.Proofs.YthmgcebonplcgaaGreatDoor
open Go.RowKit

theorem itemR_badQ {cf : ByteArray → (Nat → Bool) × Bool} {s : ByteArray} {g : Bool} {k pos : Nat} (h : itemR cf s g k = .bad pos) (hk : k ≤ s.size) : pos ≤ s.size := by
  unfold itemR at h
  split at h
  · split at h
    · cases h; exact hk
    · split at h
      · cases h
      · cases h; exact hk
  split at h
  · cases h; exact hk
  split at h
  · rename_i hc
    split at h
    · cases h
    · cases h
      have := atB_in (s := s) (k := k) (by rw [hc.2]; decide)
      omega
  split at h
  · cases h
  · cases h; exact hk
theorem partR_badQ {cf : ByteArray → (Nat → Bool) × Bool} {s : ByteArray} {g : Bool} {k c pos : Nat} (h : partR cf s g k = .bad c pos) (hk : k ≤ s.size) : (c = 7 ∨ c = 8) ∧ pos ≤ s.size := by
  unfold partR at h
  cases h1 : itemR cf s g k with
  | bad ps => rw [h1] at h; cases h; exact ⟨Or.inr rfl, itemR_badQ h1 hk⟩
  | cls q n1 => rw [h1] at h; cases h
  | byt d n1 =>
    rw [h1] at h
    have b1 := (itemR_byte h1).2
    simp only at h
    split at h
    · rename_i hc
      have hn : n1 + 1 ≤ s.size := by
        have := atB_in (s := s) (k := n1) (by rw [hc.1]; decide)
        omega
      cases h2 : itemR cf s g (n1 + 1) with
      | bad ps => rw [h2] at h; cases h; exact ⟨Or.inr rfl, itemR_badQ h2 hn⟩
      | cls q n2 => rw [h2] at h; cases h; exact ⟨Or.inr rfl, hn⟩
      | byt d2 n2 =>
        rw [h2] at h
        simp only at h
        split at h
        · cases h; exact ⟨Or.inl rfl, hk⟩
        · cases h
    · cases h
theorem brkL_badQ (cf : ByteArray → (Nat → Bool) × Bool) (s : ByteArray) (g : Bool) : ∀ (n k : Nat) (f : Bool) (p : Nat → Bool) (c pos : Nat), s.size + 1 - k ≤ n → 1 ≤ n → k ≤ s.size → brkL cf s g n k f p = .bad c pos → (c = 7 ∨ c = 8) ∧ pos ≤ s.size := by
  intro n
  induction n with
  | zero => intro k f p c pos _ h; omega
  | succ n ih =>
    intro k f p c pos h1 _ hk h
    unfold brkL at h
    split at h
    · cases h
    · cases hp : partR cf s g k with
      | bad c' pos' => rw [hp] at h; cases h; exact partR_badQ hp hk
      | ok q nx =>
        rw [hp] at h
        have := partR_next hp
        exact ih _ _ _ _ _ (by omega) (by omega) this.1 h
theorem brkR_badQ {cf : ByteArray → (Nat → Bool) × Bool} {s : ByteArray} {g : Bool} {c pos : Nat} (h : brkR cf s g 0 = .bad c pos) : (c = 7 ∨ c = 8) ∧ pos ≤ s.size := by
  unfold brkR at h
  split at h
  · rename_i hc
    have hs : 0 < s.size := by
      refine atB_in (s := s) (k := 0) ?_
      rcases hc with e | e
      · rw [e]; decide
      · rw [e.2]; decide
    cases hb : brkL cf s g (s.size + 1 - (0 + 1)) (0 + 1) true noP with
    | bad c' p' => rw [hb] at h; simp only [brkT, BR.bad.injEq] at h; obtain ⟨rfl, rfl⟩ := h; exact brkL_badQ cf s g _ _ _ _ _ _ (Nat.le_refl _) (by omega) (by omega) hb
    | ok p nx => rw [hb] at h; cases h
  · cases hb : brkL cf s g (s.size + 1 - 0) 0 true noP with
    | bad c' p' => rw [hb] at h; simp only [brkT, BR.bad.injEq] at h; obtain ⟨rfl, rfl⟩ := h; exact brkL_badQ cf s g _ _ _ _ _ _ (Nat.le_refl _) (by omega) (by omega) hb
    | ok p nx => rw [hb] at h; cases h
theorem litR_bad {t : List Int} {ext : Bool} {c : Nat} (h : litR t ext = .bad c) : c = 3 ∨ c = 10 := by
  unfold litR at h
  (repeat' split at h) <;> first | (cases h; exact Or.inl rfl) | (cases h; exact Or.inr rfl) | cases h
/-- What may be wrong with a sign, and where. -/
theorem sg_er {cf : ByteArray → (Nat → Bool) × Bool} {l : List Int} {ext : Bool} {k c p : Nat} (h : (sg cf l ext k).er = some (c, p)) (hk : k ≤ l.length) : (c = 3 ∨ c = 7 ∨ c = 8 ∨ c = 10) ∧ p ≤ l.length := by
  have h0 := sgT_le l k hk
  revert h
  apply sg_cases (fun s => s.er = some (c, p) → (c = 3 ∨ c = 7 ∨ c = 8 ∨ c = 10) ∧ p ≤ l.length)
  case h0b =>
    intro c' _ hb h
    simp only [Option.some.injEq, Prod.mk.injEq] at h
    obtain ⟨rfl, rfl⟩ := h
    have := litR_bad hb
    exact ⟨by omega, hk⟩
  case h91b =>
    intro c' pos _ hb h
    simp only [Option.some.injEq, Prod.mk.injEq] at h
    obtain ⟨rfl, rfl⟩ := h
    have := brkR_badQ hb
    rw [ofBys_size, List.length_drop] at this
    exact ⟨by omega, by omega⟩
  case h123b =>
    intro _ _ h
    simp only [Option.some.injEq, Prod.mk.injEq] at h
    obtain ⟨rfl, rfl⟩ := h
    exact ⟨by simp, hk⟩
  all_goals
    intros
    rename_i h
    cases h
theorem rdR_pos (cf : ByteArray → (Nat → Bool) × Bool) (l : List Int) (ext : Bool) (n : Nat) (md : RM) (k g o : Nat) (c p : Nat) (h : rdR cf l ext n md k g o = some (.bad c p)) (hk : k ≤ l.length) : (c = 3 ∨ c = 5 ∨ c = 7 ∨ c = 8 ∨ c = 9 ∨ c = 10) ∧ p ≤ l.length := by
  have key := rdR_ind cf l ext (fun _ k _ _ r => k ≤ l.length → (∀ t k1 g1, r = .ok t k1 g1 → k ≤ k1 ∧ k1 ≤ l.length) ∧ ∀ c p, r = .bad c p → (c = 3 ∨ c = 5 ∨ c = 7 ∨ c = 8 ∨ c = 9 ∨ c = 10) ∧ p ≤ l.length) ?_ ?_ ?_ ?_ ?_ ?_ ?_ ?_ ?_ ?_ ?_ ?_ ?_ ?_ ?_ n md k g o _ h
  · exact (key hk).2 c p rfl
  · intro bs k g o c p h1 hk
    exact ⟨fun t k1 g1 e => (by cases e), fun c' p' e => by cases e; exact (h1 hk).2 _ _ rfl⟩
  · intro bs k g o b k1 g1 r h1 _ h2 hk
    have a := (h1 hk).1 _ _ _ rfl
    have b := sg_nx cf l ext k1 a.2
    exact ⟨fun t k2 g2 e => by have c := (h2 b.2).1 _ _ _ e; omega, (h2 b.2).2⟩
  · intro bs k g o b k1 g1 h1 _ hk
    exact ⟨fun t k2 g2 e => by cases e; exact (h1 hk).1 _ _ _ rfl, fun c p e => by cases e⟩
  · intro k g o _ hk
    refine ⟨fun t k1 g1 e => (by cases e), fun c p e => ?_⟩
    cases e
    refine ⟨?_, hk⟩
    split <;> simp
  · intro items k g o _ _ hk
    exact ⟨fun t k1 g1 e => by cases e; exact ⟨Nat.le_refl _, hk⟩, fun c p e => by cases e⟩
  · intro items k g o r _ _ h2 hk
    have b := sg_nx cf l ext k hk
    exact ⟨fun t k1 g1 e => by have c := (h2 b.2).1 _ _ _ e; omega, (h2 b.2).2⟩
  · intro items k g o _ _ hk
    exact ⟨fun t k1 g1 e => (by cases e), fun c p e => by cases e; exact ⟨by simp, hk⟩⟩
  · intro items k g o c p _ _ he hk
    exact ⟨fun t k1 g1 e => (by cases e), fun c' p' e => by cases e; have := sg_er he hk; exact ⟨by omega, this.2⟩⟩
  · intro items k g o r _ _ _ h2 hk
    have b := sg_nx cf l ext k hk
    exact ⟨fun t k1 g1 e => by have c := (h2 b.2).1 _ _ _ e; omega, (h2 b.2).2⟩
  · intro items k g o _ _ hk
    exact ⟨fun t k1 g1 e => (by cases e), fun c p e => by cases e; exact ⟨by simp, hk⟩⟩
  · intro items k g o c p _ _ h1 hk
    have b := sg_nx cf l ext k hk
    exact ⟨fun t k1 g1 e => (by cases e), fun c' p' e => by cases e; exact (h1 b.2).2 _ _ rfl⟩
  · intro items k g o t k1 g1 _ _ h1 _ hk
    have b := sg_nx cf l ext k hk
    have a := (h1 b.2).1 _ _ _ rfl
    exact ⟨fun t k1 g1 e => (by cases e), fun c' p' e => by cases e; exact ⟨by simp, a.2⟩⟩
  · intro items k g o t k1 g1 r _ _ h1 _ h2 hk
    have b := sg_nx cf l ext k hk
    have a := (h1 b.2).1 _ _ _ rfl
    have d := sg_nx cf l ext k1 a.2
    exact ⟨fun t k2 g2 e => by have c := (h2 d.2).1 _ _ _ e; omega, (h2 d.2).2⟩
  · intro items k g o c p _ _ _ he hk
    exact ⟨fun t k1 g1 e => (by cases e), fun c' p' e => by cases e; have := sg_er he hk; exact ⟨by omega, this.2⟩⟩
  · intro items k g o r _ _ _ _ _ h2 hk
    have b := sg_nx cf l ext k hk
    exact ⟨fun t k1 g1 e => by have c := (h2 b.2).1 _ _ _ e; omega, (h2 b.2).2⟩
theorem parseN_pos {cf : ByteArray → (Nat → Bool) × Bool} {l : List Int} {ext : Bool} {n c p : Nat} (h : parseN cf l ext n = some (.bad c p)) : (c = 2 ∧ p = 0 ∧ 256 < l.length) ∨ (l.length ≤ 256 ∧ (c = 3 ∨ c = 5 ∨ c = 7 ∨ c = 8 ∨ c = 9 ∨ c = 10) ∧ p ≤ l.length) := by
  unfold parseN at h
  split at h
  · rename_i hb
    cases h
    exact Or.inl ⟨rfl, rfl, hb⟩
  · rename_i hb
    refine Or.inr ⟨by omega, ?_⟩
    cases hr : rdR cf l ext n (.re []) 0 0 0 with
    | none => rw [hr] at h; cases h
    | some r =>
      rw [hr] at h
      cases r with
      | bad c' p' => cases h; exact rdR_pos cf l ext _ _ _ _ _ _ _ hr (Nat.zero_le _)
      | ok t k g =>
        dsimp only at h
        split at h
        · cases h
        · cases h
          exact ⟨by simp, (rdR_le cf l ext _ _ _ _ _ _ _ _ hr (Nat.zero_le _)).2⟩
theorem sg_nd (cf : ByteArray → (Nat → Bool) × Bool) (l : List Int) (ext : Bool) (k : Nat) (h0 : endsB (sg cf l ext k).kd = false) (h1 : (sg cf l ext k).kd ≠ 1) (h2 : (sg cf l ext k).kd ≠ 2) (he : (sg cf l ext k).er = none) : 1 ≤ (sg cf l ext k).nd.kd ∧ (sg cf l ext k).nd.kids = .nil := by
  revert h0 h1 h2 he
  apply sg_cases (fun s => endsB s.kd = false → s.kd ≠ 1 → s.kd ≠ 2 → s.er = none → 1 ≤ s.nd.kd ∧ s.nd.kids = .nil) <;> intros <;> simp_all [endsB, setN, kindN]
def kdL (l : List Nd) : Prop := ∀ x ∈ l, 1 ≤ x.kd
theorem kd_join {kd : Int} {l : List Nd} (hk : 1 ≤ kd) (h : kdL l) : 1 ≤ (joinN kd l).kd := by
  unfold joinN
  split
  · exact h _ (by simp)
  · exact hk
theorem kd_snoc {l : List Nd} {x : Nd} (h : kdL l) (hx : 1 ≤ x.kd) : kdL (l ++ [x]) := fun y hy => by
  rcases List.mem_append.1 hy with h1 | h1
  · exact h y h1
  · rw [List.mem_singleton.1 h1]; exact hx
theorem kd_rep {l : List Nd} {m n : Int} (h : kdL l) : kdL (repL l m n) := by
  unfold repL
  split
  · exact h
  · refine kd_snoc (fun y hy => h y (List.dropLast_subset _ hy)) (by show (1 : Int) ≤ 6; decide)
def RM.list : RM → List Nd
  | .re bs => bs
  | .br items => items
/-- A tree that was read is of some kind; there are at most nine groups. -/
theorem rdR_kd (cf : ByteArray → (Nat → Bool) × Bool) (l : List Int) (ext : Bool) (n : Nat) (md : RM) (k g o : Nat) (t : Nd) (k1 g1 : Nat) (h : rdR cf l ext n md k g o = some (.ok t k1 g1)) (hm : kdL md.list) (hg : g ≤ 9) : 1 ≤ t.kd ∧ g1 ≤ 9 := by
  have key := rdR_ind cf l ext (fun md _ g _ r => kdL md.list → g ≤ 9 → ∀ t k1 g1, r = .ok t k1 g1 → 1 ≤ t.kd ∧ g1 ≤ 9) ?_ ?_ ?_ ?_ ?_ ?_ ?_ ?_ ?_ ?_ ?_ ?_ ?_ ?_ ?_ n md k g o _ h
  · exact key hm hg t k1 g1 rfl
  · intro bs k g o c p _ _ _ t k1 g1 e; cases e
  · intro bs k g o b k1 g1 r h1 _ h2 hm hg t k2 g2 e
    have a := h1 (fun x hx => by cases hx) hg _ _ _ rfl
    exact h2 (kd_snoc hm a.1) a.2 _ _ _ e
  · intro bs k g o b k1 g1 h1 _ hm hg t k2 g2 e
    have a := h1 (fun x hx => by cases hx) hg _ _ _ rfl
    cases e
    exact ⟨kd_join (by decide) (kd_snoc hm a.1), a.2⟩
  · intro k g o _ _ _ t k1 g1 e; cases e
  · intro items k g o _ _ hm hg t k1 g1 e
    cases e
    exact ⟨kd_join (by decide) hm, hg⟩
  · intro items k g o r _ _ h2 hm hg t k1 g1 e
    exact h2 (kd_snoc hm (by show (1 : Int) ≤ 1; decide)) hg _ _ _ e
  · intro items k g o _ _ _ _ t k1 g1 e; cases e
  · intro items k g o c p _ _ _ _ _ t k1 g1 e; cases e
  · intro items k g o r _ _ _ h2 hm hg t k1 g1 e
    exact h2 (kd_rep hm) hg _ _ _ e
  · intro items k g o _ _ _ _ t k1 g1 e; cases e
  · intro items k g o c p _ _ _ _ _ t k1 g1 e; cases e
  · intro items k g o t k1 g1 _ _ _ _ _ _ t' k2 g2 e; cases e
  · intro items k g o t k1 g1 r _ h9 h1 _ h2 hm hg t' k2 g2 e
    have a := h1 (fun x hx => by cases hx) (by omega) _ _ _ rfl
    exact h2 (kd_snoc hm (by show (1 : Int) ≤ 7; decide)) a.2 _ _ _ e
  · intro items k g o c p _ _ _ _ _ _ t k1 g1 e; cases e
  · intro items k g o r h0 h1 h2' he _ h2 hm hg t k1 g1 e
    exact h2 (kd_snoc hm (sg_nd cf l ext k h0 h1 h2' he).1) hg _ _ _ e
theorem parseN_ok {cf : ByteArray → (Nat → Bool) × Bool} {l : List Int} {ext : Bool} {n : Nat} {t : Nd} {k g : Nat} (h : parseN cf l ext n = some (.ok t k g)) : l.length ≤ 256 ∧ rdR cf l ext n (.re []) 0 0 0 = some (.ok t k g) ∧ k = l.length ∧ 1 ≤ t.kd ∧ g ≤ 9 := by
  unfold parseN at h
  split at h
  · cases h
  rename_i hb
  cases hr : rdR cf l ext n (.re []) 0 0 0 with
  | none => rw [hr] at h; cases h
  | some r =>
    rw [hr] at h
    cases r with
    | bad c' p' => cases h
    | ok t k g =>
      dsimp only at h
      split at h
      · rename_i h5
        cases h
        have a := rdR_le cf l ext _ _ _ _ _ _ _ _ hr (Nat.zero_le _)
        have b := rdR_kd cf l ext _ _ _ _ _ _ _ _ hr (fun x hx => by cases hx) (Nat.zero_le _)
        have c := sg_last cf l ext k h5
        exact ⟨by omega, rfl, by omega, b⟩
      · cases h
/-- Nothing is no expression. -/
theorem parseN_nil (cf : ByteArray → (Nat → Bool) × Bool) (ext : Bool) (n : Nat) (t : Nd) (k g : Nat) : parseN cf [] ext n ≠ some (.ok t k g) := by
  intro h
  have h1 := (parseN_ok h).2.1
  have he : (sg cf [] ext 0).kd = 5 := sg_end cf [] ext 0 (by simp)
  match n, h1 with
  | 0, h1 => simp [rdR] at h1
  | 1, h1 => rw [rdR_re] at h1; simp [rdR] at h1
  | n + 2, h1 =>
    rw [rdR_re, rdR_br, he] at h1
    simp [endsB] at h1
end Go.Proofs.YthmgcebonplcgaaGreatDoor
