import Derived.Test.YtnpkcllbpnmabaaGreatDoorKItx
import Derived.Test.YtnpkcllbpnmabaaGreatDoorSeBel
import Derived.Lib.TrailingZeros
import Derived.Test.YtnpkcllbpnmabaaGreatDoorKSet
import Derived.Test.YtnpkcllbpnmabaaGreatDoorKSn
import Derived.Test.YtnpkcllbpnmabaaGreatDoorReAs
namespace Go.Proofs.YtnpkcllbpnmabaaGreatDoor
set_option maxRecDepth 100000
open Go.RowKit
theorem brkR_gt (cf : ByteArray → (Nat → Bool) × Bool) (s : ByteArray) (g : Bool) {q : Nat → Bool} {m : Nat} (h : brkR cf s g 0 = .ok q m) : 0 < m ∧ m ≤ s.size := by
 unfold brkR at h
 split at h
 ·cases hb : brkL cf s g (s.size + 1 - (0 + 1)) (0 + 1) true noP with
  | bad c pos => rw [hb] at h; cases h
  | ok p nx =>
   rw [hb] at h
   simp only [brkT, BR.ok.injEq] at h
   obtain ⟨_, rfl⟩ := h
   have := brkL_gt cf _ _ _ _ _ _ hb
   omega
 ·cases hb : brkL cf s g (s.size + 1 - 0) 0 true noP with
  | bad c pos => rw [hb] at h; cases h
  | ok p nx =>
   rw [hb] at h
   simp only [brkT, BR.ok.injEq] at h
   obtain ⟨_, rfl⟩ := h
   have := brkL_gt cf _ _ _ _ _ _ hb
   omega
inductive Fo where
 | nil
 | cons (kd : Int) (p : Nat → Bool) (mn mx gp : Int) (kids rest : Fo)
structure Nd where
 kd : Int
 p : Nat → Bool
 mn : Int
 mx : Int
 gp : Int
 kids : Fo
def fo : List Nd → Fo
 | [] => .nil
 | n :: r => .cons n.kd n.p n.mn n.mx n.gp n.kids (fo r)
def Fo.toL : Fo → List Nd
 | .nil => []
 | .cons kd p mn mx gp kids rest => ⟨kd, p, mn, mx, gp, kids⟩ :: rest.toL
def Fo.len : Fo → Nat
 | .nil => 0
 | .cons _ _ _ _ _ _ rest => rest.len + 1
theorem fo_len : ∀ l : List Nd, (fo l).len = l.length
 | [] => rfl
 | _ :: r => by show (fo r).len + 1 = _; rw [fo_len r]; rfl
theorem fo_toL : ∀ f : Fo, fo f.toL = f
 | .nil => rfl
 | .cons _ _ _ _ _ _ rest => by show Fo.cons _ _ _ _ _ _ (fo rest.toL) = _; rw [fo_toL rest]
def zeroN : Nd := ⟨0, noP, 0, 0, 0, .nil⟩
def setN (p : Nat → Bool) : Nd := ⟨1, p, 0, 0, 0, .nil⟩
def kindN (kd : Int) : Nd := ⟨kd, noP, 0, 0, 0, .nil⟩
def allP (c : Nat) : Bool := !noP c
def joinN (kd : Int) (l : List Nd) : Nd :=
 match l with
 | [x] => x
 | l => ⟨kd, noP, 0, 0, 0, fo l⟩
def repN (m n : Int) (x : Nd) : Nd := ⟨6, noP, m, n, 0, fo [x]⟩
def grpN (k : Int) (x : Nd) : Nd := ⟨7, noP, 0, 0, k, fo [x]⟩
def sgT (l : List Int) (k : Nat) : List Int :=
 if k < l.length then (if l.getD k 0 = 92 ∧ k + 1 < l.length then [92, l.getD (k + 1) 0] else [l.getD k 0]) else []
def roleC (t : List Int) (ext : Bool) : Int :=
 if t = [] then 256
 else if t = [92, 40] ∨ t = [92, 41] ∨ t = [92, 123] then (if ext then 0 else t.getD 1 0)
 else if t = [40] ∨ t = [41] ∨ t = [123] ∨ t = [43] ∨ t = [63] ∨ t = [124] then (if ext then t.getD 0 0 else 0)
 else if t = [46] ∨ t = [91] ∨ t = [94] ∨ t = [36] ∨ t = [42] then t.getD 0 0
 else 0
def mayQ (c : Int) (ext : Bool) : Bool :=
 if c = 40 ∨ c = 41 ∨ c = 43 ∨ c = 63 ∨ c = 123 ∨ c = 125 ∨ c = 124 then ext
 else decide (c = 46 ∨ c = 91 ∨ c = 93 ∨ c = 42 ∨ c = 94 ∨ c = 36 ∨ c = 47 ∨ c = 92)
inductive LT where
 | byt (c : Int)
 | bad (code : Nat)
def litR (t : List Int) (ext : Bool) : LT :=
 if ¬ t.getD 0 0 = 92 then .byt (t.getD 0 0)
 else if t = [92, 110] then .byt 10
 else if t = [92, 125] ∧ ext = false then .bad 3
 else if 1 < t.length ∧ mayQ (t.getD 1 0) ext = true then .byt (t.getD 1 0)
 else .bad 10
def dgtB : ByteArray := ⟨#[48, 49, 50, 51, 52, 53, 54, 55, 56, 57]⟩
def nD (l : List Int) (k : Nat) : Nat := passN (ofBys l) dgtB true k
def dgs (l : List Int) (k : Nat) : List Int := (l.drop k).take (nD l k)
def numOk (l : List Int) (k : Nat) : Bool := wOk (dgs l k) && decide ((dgs l k).length ≤ 3) && decide (wV (dgs l k) ≤ 255)
def numV (l : List Int) (k : Nat) : Int := wV (dgs l k)
def begAt (l : List Int) (k : Nat) (e : List Int) : Bool := decide ((l.drop k).take e.length = e)
def shutT (ext : Bool) : List Int := if ext then [125] else [92, 125]
def itv (l : List Int) (ext : Bool) (k : Nat) : Option (Int × Int × Nat) :=
 if numOk l k = false then none
 else if begAt l (k + nD l k) (shutT ext) = true then some (numV l k, numV l k, k + nD l k + (shutT ext).length)
 else if begAt l (k + nD l k) [44] = false then none
 else if begAt l (k + nD l k + 1) (shutT ext) = true then some (numV l k, -1, k + nD l k + 1 + (shutT ext).length)
 else if (numOk l (k + nD l k + 1) && decide (numV l k ≤ numV l (k + nD l k + 1)) && begAt l (k + nD l k + 1 + nD l (k + nD l k + 1)) (shutT ext)) = true
  then some (numV l k, numV l (k + nD l k + 1), k + nD l k + 1 + nD l (k + nD l k + 1) + (shutT ext).length)
 else none
structure Sg where
 kd : Nat
 tx : List Int
 nd : Nd
 lo : Int
 hi : Int
 er : Option (Nat × Nat)
 nx : Nat
def sgR (cf : ByteArray → (Nat → Bool) × Bool) (l : List Int) (ext : Bool) (k : Nat) (t : List Int) (k1 : Nat) (r : Int) : Sg :=
 if r = 0 then
  match litR t ext with
  | .byt c => ⟨0, t, setN (mem [c]), 0, 0, none, k1⟩
  | .bad c => ⟨0, t, zeroN, 0, 0, some (c, k), k1⟩
 else if r = 46 then ⟨0, t, setN allP, 0, 0, none, k1⟩
 else if r = 91 then
  match brkR cf (ofBys (l.drop k1)) false 0 with
  | .ok p nx => ⟨0, t, setN p, 0, 0, none, k1 + nx⟩
  | .bad c pos => ⟨0, t, setN noP, 0, 0, some (c, k1 + pos), k1⟩
 else if r = 94 then ⟨0, t, kindN 2, 0, 0, none, k1⟩
 else if r = 36 then ⟨0, t, kindN 3, 0, 0, none, k1⟩
 else if r = 43 then ⟨1, t, zeroN, 1, -1, none, k1⟩
 else if r = 42 then ⟨1, t, zeroN, 0, -1, none, k1⟩
 else if r = 63 then ⟨1, t, zeroN, 0, 1, none, k1⟩
 else if r = 123 then
  match itv l ext k1 with
  | some (m, n, k2) => ⟨1, t, zeroN, m, n, none, k2⟩
  | none => ⟨1, t, zeroN, 0, 0, some (7, k), k1⟩
 else if r = 40 then ⟨2, t, zeroN, 0, 0, none, k1⟩
 else if r = 41 then ⟨3, t, zeroN, 0, 0, none, k1⟩
 else if r = 124 then ⟨4, t, zeroN, 0, 0, none, k1⟩
 else ⟨5, t, zeroN, 0, 0, none, k1⟩
def sg (cf : ByteArray → (Nat → Bool) × Bool) (l : List Int) (ext : Bool) (k : Nat) : Sg := sgR cf l ext k (sgT l k) (k + (sgT l k).length) (roleC (sgT l k) ext)
theorem role_all (t : List Int) (ext : Bool) : roleC t ext = 0 ∨ roleC t ext = 46 ∨ roleC t ext = 91 ∨ roleC t ext = 94 ∨ roleC t ext = 36 ∨ roleC t ext = 43 ∨ roleC t ext = 42 ∨ roleC t ext = 63 ∨ roleC t ext = 123 ∨ roleC t ext = 40 ∨ roleC t ext = 41 ∨ roleC t ext = 124 ∨ (roleC t ext = 256 ∧ t = []) := by
 unfold roleC
 split
 ·rename_i h; simp [h]
 split
 ·rename_i hc
  rcases hc with e | e | e <;> rw [e] <;> cases ext <;> simp
 split
 ·rename_i hc
  rcases hc with e | e | e | e | e | e <;> rw [e] <;> cases ext <;> simp
 split
 ·rename_i hc
  rcases hc with e | e | e | e | e <;> rw [e] <;> simp
 ·simp
theorem sg_cases (P : Sg → Prop) (cf : ByteArray → (Nat → Bool) × Bool) (l : List Int) (ext : Bool) (k : Nat)
  (h0 : ∀ c, roleC (sgT l k) ext = 0 → litR (sgT l k) ext = .byt c → P ⟨0, sgT l k, setN (mem [c]), 0, 0, none, k + (sgT l k).length⟩)
  (h0b : ∀ c, roleC (sgT l k) ext = 0 → litR (sgT l k) ext = .bad c → P ⟨0, sgT l k, zeroN, 0, 0, some (c, k), k + (sgT l k).length⟩)
  (h46 : roleC (sgT l k) ext = 46 → P ⟨0, sgT l k, setN allP, 0, 0, none, k + (sgT l k).length⟩)
  (h91 : ∀ p nx, roleC (sgT l k) ext = 91 → brkR cf (ofBys (l.drop (k + (sgT l k).length))) false 0 = .ok p nx → P ⟨0, sgT l k, setN p, 0, 0, none, k + (sgT l k).length + nx⟩)
  (h91b : ∀ c pos, roleC (sgT l k) ext = 91 → brkR cf (ofBys (l.drop (k + (sgT l k).length))) false 0 = .bad c pos → P ⟨0, sgT l k, setN noP, 0, 0, some (c, k + (sgT l k).length + pos), k + (sgT l k).length⟩)
  (h94 : roleC (sgT l k) ext = 94 → P ⟨0, sgT l k, kindN 2, 0, 0, none, k + (sgT l k).length⟩)
  (h36 : roleC (sgT l k) ext = 36 → P ⟨0, sgT l k, kindN 3, 0, 0, none, k + (sgT l k).length⟩)
  (h43 : roleC (sgT l k) ext = 43 → P ⟨1, sgT l k, zeroN, 1, -1, none, k + (sgT l k).length⟩)
  (h42 : roleC (sgT l k) ext = 42 → P ⟨1, sgT l k, zeroN, 0, -1, none, k + (sgT l k).length⟩)
  (h63 : roleC (sgT l k) ext = 63 → P ⟨1, sgT l k, zeroN, 0, 1, none, k + (sgT l k).length⟩)
  (h123 : ∀ m n k2, roleC (sgT l k) ext = 123 → itv l ext (k + (sgT l k).length) = some (m, n, k2) → P ⟨1, sgT l k, zeroN, m, n, none, k2⟩)
  (h123b : roleC (sgT l k) ext = 123 → itv l ext (k + (sgT l k).length) = none → P ⟨1, sgT l k, zeroN, 0, 0, some (7, k), k + (sgT l k).length⟩)
  (h40 : roleC (sgT l k) ext = 40 → P ⟨2, sgT l k, zeroN, 0, 0, none, k + (sgT l k).length⟩)
  (h41 : roleC (sgT l k) ext = 41 → P ⟨3, sgT l k, zeroN, 0, 0, none, k + (sgT l k).length⟩)
  (h124 : roleC (sgT l k) ext = 124 → P ⟨4, sgT l k, zeroN, 0, 0, none, k + (sgT l k).length⟩)
  (h256 : roleC (sgT l k) ext = 256 → sgT l k = [] → P ⟨5, sgT l k, zeroN, 0, 0, none, k + (sgT l k).length⟩) : P (sg cf l ext k) := by
 unfold sg
 rcases role_all (sgT l k) ext with h | h | h | h | h | h | h | h | h | h | h | h | ⟨h, h'⟩ <;> rw [h]
 ·cases hl : litR (sgT l k) ext with
  | byt c =>
   have e : sgR cf l ext k (sgT l k) (k + (sgT l k).length) 0 = ⟨0, sgT l k, setN (mem [c]), 0, 0, none, k + (sgT l k).length⟩ := by unfold sgR; rw [if_pos rfl, hl]
   rw [e]; exact h0 c h hl
  | bad c =>
   have e : sgR cf l ext k (sgT l k) (k + (sgT l k).length) 0 = ⟨0, sgT l k, zeroN, 0, 0, some (c, k), k + (sgT l k).length⟩ := by unfold sgR; rw [if_pos rfl, hl]
   rw [e]; exact h0b c h hl
 ·exact h46 h
 ·cases hb : brkR cf (ofBys (l.drop (k + (sgT l k).length))) false 0 with
  | ok p nx =>
   have e : sgR cf l ext k (sgT l k) (k + (sgT l k).length) 91 = ⟨0, sgT l k, setN p, 0, 0, none, k + (sgT l k).length + nx⟩ := by unfold sgR; rw [if_neg (by decide), if_neg (by decide), if_pos rfl, hb]
   rw [e]; exact h91 p nx h hb
  | bad c pos =>
   have e : sgR cf l ext k (sgT l k) (k + (sgT l k).length) 91 = ⟨0, sgT l k, setN noP, 0, 0, some (c, k + (sgT l k).length + pos), k + (sgT l k).length⟩ := by unfold sgR; rw [if_neg (by decide), if_neg (by decide), if_pos rfl, hb]
   rw [e]; exact h91b c pos h hb
 ·exact h94 h
 ·exact h36 h
 ·exact h43 h
 ·exact h42 h
 ·exact h63 h
 ·cases hi : itv l ext (k + (sgT l k).length) with
  | some x =>
   obtain ⟨m, n, k2⟩ := x
   have e : sgR cf l ext k (sgT l k) (k + (sgT l k).length) 123 = ⟨1, sgT l k, zeroN, m, n, none, k2⟩ := by
    show (match itv l ext (k + (sgT l k).length) with | some (m, n, k2) => _ | none => _) = _
    rw [hi]
   rw [e]; exact h123 m n k2 h hi
  | none =>
   have e : sgR cf l ext k (sgT l k) (k + (sgT l k).length) 123 = ⟨1, sgT l k, zeroN, 0, 0, some (7, k), k + (sgT l k).length⟩ := by
    show (match itv l ext (k + (sgT l k).length) with | some (m, n, k2) => _ | none => _) = _
    rw [hi]
   rw [e]; exact h123b h hi
 ·exact h40 h
 ·exact h41 h
 ·exact h124 h
 ·exact h256 h h'
inductive RR where
 | ok (t : Nd) (k g : Nat)
 | bad (c p : Nat)
inductive RM where
 | re (bs : List Nd)
 | br (items : List Nd)
def endsB (kd : Nat) : Bool := kd == 3 || kd == 4 || kd == 5
def endsP (items : List Nd) : Bool :=
 match items.getLast? with
 | none => false
 | some x => decide (x.kd ≠ 2) && decide (x.kd ≠ 3)
def isByt (ext : Bool) (s : Sg) (nk : Nat) (items : List Nd) : Bool :=
 if ext then false
 else if s.tx = [94] then !items.isEmpty
 else if s.tx = [36] then !endsB nk
 else if s.tx = [42] then !endsP items
 else false
def repL (items : List Nd) (m n : Int) : List Nd :=
 match items.getLast? with
 | none => items
 | some x => items.dropLast ++ [repN m n x]
def rdR (cf : ByteArray → (Nat → Bool) × Bool) (l : List Int) (ext : Bool) : Nat → RM → Nat → Nat → Nat → Option RR
 | 0, _, _, _, _ => none
 | n + 1, .re bs, k, g, o =>
  match rdR cf l ext n (.br []) k g o with
  | some (.ok b k1 g1) => if (sg cf l ext k1).kd = 4 then rdR cf l ext n (.re (bs ++ [b])) (sg cf l ext k1).nx g1 o else some (.ok (joinN 5 (bs ++ [b])) k1 g1)
  | r => r
 | n + 1, .br items, k, g, o =>
  if endsB (sg cf l ext k).kd = true then
   (if items = [] then some (.bad (if ext = true ∧ (sg cf l ext k).kd = 3 ∧ o = 0 then 9 else 3) k) else some (.ok (joinN 4 items) k g))
  else if isByt ext (sg cf l ext k) (sg cf l ext (sg cf l ext k).nx).kd items = true then rdR cf l ext n (.br (items ++ [setN (mem (sg cf l ext k).tx)])) (sg cf l ext k).nx g o
  else if (sg cf l ext k).kd = 1 then
   (if endsP items = false then some (.bad 3 k)
   else match (sg cf l ext k).er with
    | some (c, p) => some (.bad c p)
    | none => rdR cf l ext n (.br (repL items (sg cf l ext k).lo (sg cf l ext k).hi)) (sg cf l ext k).nx g o)
  else if (sg cf l ext k).kd = 2 then
   (if g = 9 then some (.bad 5 k)
   else match rdR cf l ext n (.re []) (sg cf l ext k).nx (g + 1) (o + 1) with
    | some (.ok t k1 g1) => if (sg cf l ext k1).kd = 3 then rdR cf l ext n (.br (items ++ [grpN (g + 1 : Nat) t])) (sg cf l ext k1).nx g1 o else some (.bad 9 k1)
    | r => r)
  else match (sg cf l ext k).er with
   | some (c, p) => some (.bad c p)
   | none => rdR cf l ext n (.br (items ++ [(sg cf l ext k).nd])) (sg cf l ext k).nx g o
def parseN (cf : ByteArray → (Nat → Bool) × Bool) (l : List Int) (ext : Bool) (n : Nat) : Option RR :=
 if 256 < l.length then some (.bad 2 0)
 else match rdR cf l ext n (.re []) 0 0 0 with
  | some (.ok t k g) => if (sg cf l ext k).kd = 5 then some (.ok t k g) else some (.bad 9 k)
  | r => r
theorem sgT_le (l : List Int) (k : Nat) (h : k ≤ l.length) : k + (sgT l k).length ≤ l.length := by
 unfold sgT
 split
 ·split
  ·simp; omega
  ·simp; omega
 ·simp; omega
theorem sgT_pos (l : List Int) (k : Nat) (h : k < l.length) : 0 < (sgT l k).length := by
 unfold sgT
 rw [if_pos h]
 split <;> simp
theorem sgT_end (l : List Int) (k : Nat) (h : ¬ k < l.length) : sgT l k = [] := by
 unfold sgT
 rw [if_neg h]
theorem nD_le (l : List Int) (k : Nat) (h : k ≤ l.length) : k + nD l k ≤ l.length := by
 have := (stopN_is (passB (ofBys l) dgtB true k) ((ofBys l).size - k)).1
 unfold nD passN
 rw [ofBys_size] at *
 omega
theorem begAt_le {l : List Int} {k : Nat} {e : List Int} (h : begAt l k e = true) (he : e ≠ []) : k + e.length ≤ l.length := by
 unfold begAt at h
 simp only [decide_eq_true_eq] at h
 have h1 := congrArg List.length h
 rw [List.length_take, List.length_drop] at h1
 have h2 : 0 < e.length := List.length_pos_iff.2 he
 omega
theorem shutT_ne (ext : Bool) : shutT ext ≠ [] := by cases ext <;> simp [shutT]
theorem itv_le {l : List Int} {ext : Bool} {k : Nat} {m n : Int} {k2 : Nat} (h : itv l ext k = some (m, n, k2)) : k2 ≤ l.length := by
 unfold itv at h
 split at h
 ·cases h
 split at h
 ·rename_i hb
  simp only [Option.some.injEq, Prod.mk.injEq] at h
  have := begAt_le hb (shutT_ne ext)
  omega
 split at h
 ·cases h
 split at h
 ·rename_i hb
  simp only [Option.some.injEq, Prod.mk.injEq] at h
  have := begAt_le hb (shutT_ne ext)
  omega
 split at h
 ·rename_i hb
  simp only [Bool.and_eq_true] at hb
  simp only [Option.some.injEq, Prod.mk.injEq] at h
  have := begAt_le hb.2 (shutT_ne ext)
  omega
 ·cases h
theorem itv_ge {l : List Int} {ext : Bool} {k : Nat} {m n : Int} {k2 : Nat} (h : itv l ext k = some (m, n, k2)) : k ≤ k2 := by
 unfold itv at h
 split at h
 ·cases h
 split at h
 ·simp only [Option.some.injEq, Prod.mk.injEq] at h; omega
 split at h
 ·cases h
 split at h
 ·simp only [Option.some.injEq, Prod.mk.injEq] at h; omega
 split at h
 ·simp only [Option.some.injEq, Prod.mk.injEq] at h; omega
 ·cases h
theorem sg_tx (cf : ByteArray → (Nat → Bool) × Bool) (l : List Int) (ext : Bool) (k : Nat) : (sg cf l ext k).tx = sgT l k := by
 apply sg_cases (fun s => s.tx = sgT l k) <;> intros <;> rfl
theorem sg_nx (cf : ByteArray → (Nat → Bool) × Bool) (l : List Int) (ext : Bool) (k : Nat) (h : k ≤ l.length) : k + (sgT l k).length ≤ (sg cf l ext k).nx ∧ (sg cf l ext k).nx ≤ l.length := by
 have h0 := sgT_le l k h
 apply sg_cases (fun s => k + (sgT l k).length ≤ s.nx ∧ s.nx ≤ l.length)
 case h91 =>
  intro p nx _ hb
  have := brkR_gt cf _ _ hb
  rw [ofBys_size, List.length_drop] at this
  exact ⟨by simp, by simp; omega⟩
 case h123 =>
  intro m n k2 _ hi
  exact ⟨itv_ge hi, itv_le hi⟩
 all_goals
  intros
  exact ⟨Nat.le_refl _, h0⟩
theorem role_end (l : List Int) (ext : Bool) (k : Nat) (h : k < l.length) : roleC (sgT l k) ext ≠ 256 := by
 have hp := sgT_pos l k h
 have hne : sgT l k ≠ [] := fun e => by rw [e] at hp; simp at hp
 unfold roleC
 rw [if_neg hne]
 split
 ·rename_i hc
  rcases hc with e | e | e <;> rw [e] <;> cases ext <;> decide
 split
 ·rename_i hc
  rcases hc with e | e | e | e | e | e <;> rw [e] <;> cases ext <;> decide
 split
 ·rename_i hc
  rcases hc with e | e | e | e | e <;> rw [e] <;> decide
 ·decide
theorem sg_last (cf : ByteArray → (Nat → Bool) × Bool) (l : List Int) (ext : Bool) (k : Nat) : (sg cf l ext k).kd = 5 → ¬ k < l.length := by
 apply sg_cases (fun s => s.kd = 5 → ¬ k < l.length)
 case h256 =>
  intro h _ _ hk
  exact role_end l ext k hk h
 all_goals
  intros
  rename_i h
  cases h
theorem sg_end (cf : ByteArray → (Nat → Bool) × Bool) (l : List Int) (ext : Bool) (k : Nat) (h : ¬ k < l.length) : (sg cf l ext k).kd = 5 := by
 have e : roleC (sgT l k) ext = 256 := by rw [sgT_end l k h]; rfl
 unfold sg
 rw [e]
 rfl
theorem sg_gt (cf : ByteArray → (Nat → Bool) × Bool) (l : List Int) (ext : Bool) (k : Nat) (h : k ≤ l.length) (hk : (sg cf l ext k).kd ≠ 5) : k < (sg cf l ext k).nx := by
 have hlt : k < l.length := by
  rcases Nat.lt_or_ge k l.length with h' | h'
  ·exact h'
  ·exact absurd (sg_end cf l ext k (by omega)) hk
 have := sgT_pos l k hlt
 have := (sg_nx cf l ext k h).1
 omega
def iterR (R : Nat → Nat → Prop) : Nat → Nat → Nat → Prop
 | 0, i, j => i = j
 | k + 1, i, j => ∃ m, R i m ∧ iterR R k m j
theorem iterR_add (R : Nat → Nat → Prop) (b : Nat) : ∀ a i j, iterR R (a + b) i j ↔ ∃ m, iterR R a i m ∧ iterR R b m j
 | 0, i, j => by
  rw [Nat.zero_add]
  exact ⟨fun h => ⟨i, rfl, h⟩, fun ⟨m, h1, h2⟩ => by have e : i = m := h1; rw [e]; exact h2⟩
 | a + 1, i, j => by
  rw [Nat.succ_add]
  constructor
  ·rintro ⟨m, h1, h2⟩
   obtain ⟨q, h3, h4⟩ := (iterR_add R b a m j).1 h2
   exact ⟨q, ⟨m, h1, h3⟩, h4⟩
  ·rintro ⟨q, ⟨m, h1, h3⟩, h4⟩
   exact ⟨m, h1, (iterR_add R b a m j).2 ⟨q, h3, h4⟩⟩
theorem iterR_one {R : Nat → Nat → Prop} {i j : Nat} : iterR R 1 i j ↔ R i j :=
 ⟨fun ⟨m, h1, h2⟩ => by have e : m = j := h2; rw [← e]; exact h1, fun h => ⟨j, h, rfl⟩⟩
theorem iterR_id {R : Nat → Nat → Prop} (h : ∀ i j, R i j ↔ i = j) : ∀ k i j, iterR R k i j ↔ i = j
 | 0, _, _ => Iff.rfl
 | k + 1, i, j => ⟨fun ⟨m, h1, h2⟩ => ((h i m).1 h1).trans ((iterR_id h k m j).1 h2), fun e => ⟨i, (h i i).2 rfl, (iterR_id h k i j).2 e⟩⟩
def ndM (l : List Int) (kd : Int) (p : Nat → Bool) (mn mx : Int) (c a : Nat → Nat → Prop) (i j : Nat) : Prop :=
 if kd = 1 then j = i + 1 ∧ i < l.length ∧ p (l.getD i 0).toNat = true
 else if kd = 2 then i = j ∧ i = 0
 else if kd = 3 then i = j ∧ i = l.length
 else if kd = 5 then a i j
 else if kd = 6 then ∃ k : Nat, mn ≤ k ∧ (mx < 0 ∨ (k : Int) ≤ mx) ∧ iterR c k i j
 else c i j
def Fo.M (l : List Int) : Fo → Bool → Nat → Nat → Prop
 | .nil, b, i, j => if b then i = j else False
 | .cons kd p mn mx _ kids rest, b, i, j =>
  if b then ∃ k, ndM l kd p mn mx (kids.M l true) (kids.M l false) i k ∧ rest.M l true k j
  else ndM l kd p mn mx (kids.M l true) (kids.M l false) i j ∨ rest.M l false i j
def Nd.M (l : List Int) (n : Nd) : Nat → Nat → Prop := ndM l n.kd n.p n.mn n.mx (n.kids.M l true) (n.kids.M l false)
inductive St where
 | acc
 | eat (p : Nat → Bool) (nx : Nat)
 | beg (nx : Nat)
 | fin (nx : Nat)
 | fork (nx ot : Nat)
abbrev GB := List St → Nat → List St × Nat
def reqB (one : GB) : Nat → GB
 | 0, g, s => (g, s)
 | k + 1, g, s => if (one g s).2 = s then ((one g s).1, s) else reqB one k (one g s).1 (one g s).2
def optB (one : GB) (nx : Nat) : Nat → GB
 | 0, g, s => (g, s)
 | k + 1, g, s => optB one nx k ((one g s).1 ++ [.fork (one g s).2 nx]) (one g s).1.length
def starB (one : GB) (g : List St) (nx : Nat) : List St × Nat :=
 ((one (g ++ [.fork 0 nx]) g.length).1.set g.length (.fork (one (g ++ [.fork 0 nx]) g.length).2 nx), g.length)
def bgnB (one : GB) (mx : Int) (g : List St) (nx : Nat) : List St × Nat := if mx = -1 then starB one g nx else (g, nx)
def timesB (one : GB) (mn mx : Int) (g : List St) (nx : Nat) : List St × Nat :=
 reqB one mn.toNat (optB one nx (mx - mn).toNat (bgnB one mx g nx).1 (bgnB one mx g nx).2).1 (optB one nx (mx - mn).toNat (bgnB one mx g nx).1 (bgnB one mx g nx).2).2
def ndB (kd : Int) (p : Nat → Bool) (mn mx : Int) (c a : GB) (g : List St) (nx : Nat) : List St × Nat :=
 if kd = 1 then (g ++ [.eat p nx], g.length)
 else if kd = 2 then (g ++ [.beg nx], g.length)
 else if kd = 3 then (g ++ [.fin nx], g.length)
 else if kd = 5 then a g nx
 else if kd = 6 then timesB c mn mx g nx
 else c g nx
def Fo.B : Fo → Bool → GB
 | .nil, _, g, nx => (g, nx)
 | .cons kd p mn mx _ kids rest, b, g, nx =>
  if b then ndB kd p mn mx (kids.B true) (kids.B false) (rest.B true g nx).1 (rest.B true g nx).2
  else if rest.len = 0 then ndB kd p mn mx (kids.B true) (kids.B false) g nx
  else ((ndB kd p mn mx (kids.B true) (kids.B false) (rest.B false g nx).1 nx).1 ++ [.fork (ndB kd p mn mx (kids.B true) (kids.B false) (rest.B false g nx).1 nx).2 (rest.B false g nx).2], (ndB kd p mn mx (kids.B true) (kids.B false) (rest.B false g nx).1 nx).1.length)
def Nd.B (n : Nd) : GB := ndB n.kd n.p n.mn n.mx (n.kids.B true) (n.kids.B false)
def Nd.G (n : Nd) : List St × Nat := n.B [.acc] 0
def okN (kd mn mx : Int) (n : Nat) : Prop := (kd = 5 → 0 < n) ∧ (kd = 6 → 0 ≤ mn ∧ (mx = -1 ∨ mn ≤ mx) ∧ mn ≤ 255 ∧ mx ≤ 255 ∧ n = 1)
def Fo.Ok : Fo → Prop
 | .nil => True
 | .cons kd _ mn mx _ kids rest => okN kd mn mx kids.len ∧ kids.Ok ∧ rest.Ok
def Nd.Ok (n : Nd) : Prop := okN n.kd n.mn n.mx n.kids.len ∧ n.kids.Ok
def AccN (l : List Int) (F : Nat → Prop) (G : List St) : Nat → Nat → Nat → Prop
 | 0, _, _ => False
 | k + 1, x, i =>
  match G[x]? with
  | some .acc => F i
  | some (.eat p y) => i < l.length ∧ p (l.getD i 0).toNat = true ∧ AccN l F G k y (i + 1)
  | some (.beg y) => i = 0 ∧ AccN l F G k y i
  | some (.fin y) => i = l.length ∧ AccN l F G k y i
  | some (.fork y z) => AccN l F G k y i ∨ AccN l F G k z i
  | none => False
theorem accN_eat {l : List Int} {F : Nat → Prop} {G : List St} {k x y i : Nat} {p : Nat → Bool} (e : G[x]? = some (.eat p y)) : AccN l F G (k + 1) x i ↔ i < l.length ∧ p (l.getD i 0).toNat = true ∧ AccN l F G k y (i + 1) := by
 conv => lhs; unfold AccN
 simp only [e]
theorem accN_beg {l : List Int} {F : Nat → Prop} {G : List St} {k x y i : Nat} (e : G[x]? = some (.beg y)) : AccN l F G (k + 1) x i ↔ i = 0 ∧ AccN l F G k y i := by
 conv => lhs; unfold AccN
 simp only [e]
theorem accN_fin {l : List Int} {F : Nat → Prop} {G : List St} {k x y i : Nat} (e : G[x]? = some (.fin y)) : AccN l F G (k + 1) x i ↔ i = l.length ∧ AccN l F G k y i := by
 conv => lhs; unfold AccN
 simp only [e]
theorem accN_fork {l : List Int} {F : Nat → Prop} {G : List St} {k x y z i : Nat} (e : G[x]? = some (.fork y z)) : AccN l F G (k + 1) x i ↔ AccN l F G k y i ∨ AccN l F G k z i := by
 conv => lhs; unfold AccN
 simp only [e]
theorem accN_acc {l : List Int} {F : Nat → Prop} {G : List St} {k x i : Nat} (e : G[x]? = some .acc) : AccN l F G (k + 1) x i ↔ F i := by
 conv => lhs; unfold AccN
 simp only [e]
def AgrS (G g' : List St) (a : Nat) : Prop := ∀ x, a ≤ x → x < g'.length → G[x]? = g'[x]?
structure GoodAt (l : List Int) (F : Nat → Prop) (R : Nat → Nat → Prop) (g : List St) (nx : Nat) (r : List St × Nat) : Prop where
 pre : g <+: r.1
 lt : r.2 < r.1.length
 new : (r.2 = nx ∧ ∀ i j, R i j ↔ i = j) ∨ g.length ≤ r.2
 noacc : ∀ x, g.length ≤ x → r.1[x]? ≠ some .acc
 fw : ∀ G, AgrS G r.1 g.length → ∀ k i, AccN l F G k r.2 i → ∃ j m, m ≤ k ∧ R i j ∧ AccN l F G m nx j
 bw : ∀ G, AgrS G r.1 g.length → ∀ i j m, R i j → AccN l F G m nx j → ∃ k, AccN l F G k r.2 i
theorem pre_at {g h : List St} (hp : g <+: h) {x : Nat} (hx : x < g.length) : h[x]? = g[x]? := by
 obtain ⟨t, rfl⟩ := hp
 exact List.getElem?_append_left hx
theorem pre_len {g h : List St} (hp : g <+: h) : g.length ≤ h.length := by
 obtain ⟨t, rfl⟩ := hp
 simp
theorem AgrS.lo {G g h : List St} {a : Nat} (hp : g <+: h) (ha : AgrS G h a) : AgrS G g a := fun x h1 h2 => (ha x h1 (Nat.lt_of_lt_of_le h2 (pre_len hp))).trans (pre_at hp h2)
theorem AgrS.hi {G h : List St} {a b : Nat} (hab : a ≤ b) (ha : AgrS G h a) : AgrS G h b := fun x h1 h2 => ha x (Nat.le_trans hab h1) h2
theorem GoodAt.congr {l : List Int} {F : Nat → Prop} {R R' : Nat → Nat → Prop} {g : List St} {nx : Nat} {r : List St × Nat} (h : GoodAt l F R g nx r) (e : ∀ i j, R i j ↔ R' i j) : GoodAt l F R' g nx r :=
 ⟨h.pre, h.lt, h.new.imp (fun ⟨h1, h2⟩ => ⟨h1, fun i j => (e i j).symm.trans (h2 i j)⟩) id, h.noacc,
  fun G hG k i ha => by obtain ⟨j, m, h1, h2, h3⟩ := h.fw G hG k i ha; exact ⟨j, m, h1, (e i j).1 h2, h3⟩,
  fun G hG i j m hr ha => h.bw G hG i j m ((e i j).2 hr) ha⟩
theorem GoodAt.refl (l : List Int) (F : Nat → Prop) {g : List St} {nx : Nat} (h : nx < g.length) : GoodAt l F (fun i j => i = j) g nx (g, nx) :=
 ⟨List.prefix_refl _, h, Or.inl ⟨rfl, fun _ _ => Iff.rfl⟩, fun x hx e => (by rw [List.getElem?_eq_none hx] at e; cases e),
  fun _ _ k i ha => ⟨i, k, Nat.le_refl _, rfl, ha⟩, fun _ _ i j m e ha => ⟨m, by rw [e]; exact ha⟩⟩
theorem GoodAt.comp {l : List Int} {F : Nat → Prop} {R1 R2 : Nat → Nat → Prop} {g : List St} {nx : Nat} {r1 r2 : List St × Nat} (h2 : GoodAt l F R2 g nx r2) (h1 : GoodAt l F R1 r2.1 r2.2 r1) : GoodAt l F (fun i j => ∃ k, R1 i k ∧ R2 k j) g nx r1 := by
 have hl := pre_len h2.pre
 refine ⟨h2.pre.trans h1.pre, h1.lt, ?_, fun x hx => ?_, fun G hG k i ha => ?_, fun G hG i j m hr ha => ?_⟩
 ·rcases h1.new with ⟨e, hi⟩ | hn
  ·rcases h2.new with ⟨e2, hi2⟩ | hn2
   ·exact Or.inl ⟨e.trans e2, fun i j => ⟨fun ⟨k, a, b⟩ => ((hi i k).1 a).trans ((hi2 k j).1 b), fun e => ⟨i, (hi i i).2 rfl, (hi2 i j).2 e⟩⟩⟩
   ·exact Or.inr (by rw [e]; exact hn2)
  ·exact Or.inr (Nat.le_trans hl hn)
 ·by_cases hx2 : x < r2.1.length
  ·rw [pre_at h1.pre hx2]; exact h2.noacc x hx
  ·exact h1.noacc x (Nat.le_of_not_lt hx2)
 ·obtain ⟨j, m, hm, hr, ha2⟩ := h1.fw G (hG.hi hl) k i ha
  obtain ⟨j', m', hm', hr', ha3⟩ := h2.fw G (hG.lo h1.pre) m j ha2
  exact ⟨j', m', Nat.le_trans hm' hm, ⟨j, hr, hr'⟩, ha3⟩
 ·obtain ⟨q, hr1, hr2⟩ := hr
  obtain ⟨k, hk⟩ := h2.bw G (hG.lo h1.pre) q j m hr2 ha
  exact h1.bw G (hG.hi hl) i q k hr1 hk
theorem good_put {l : List Int} {F : Nat → Prop} {R : Nat → Nat → Prop} {g h : List St} {nx : Nat} {s : St} (hp : g <+: h) (hna : ∀ x, g.length ≤ x → h[x]? ≠ some .acc) (hs : s ≠ .acc)
  (fw : ∀ G, AgrS G h g.length → G[h.length]? = some s → ∀ k i, AccN l F G (k + 1) h.length i → ∃ j m, m ≤ k + 1 ∧ R i j ∧ AccN l F G m nx j)
  (bw : ∀ G, AgrS G h g.length → G[h.length]? = some s → ∀ i j m, R i j → AccN l F G m nx j → ∃ k, AccN l F G k h.length i) : GoodAt l F R g nx (h ++ [s], h.length) := by
 have hl := pre_len hp
 have hh : (h ++ [s])[h.length]? = some s := by rw [List.getElem?_append_right (Nat.le_refl _), Nat.sub_self]; rfl
 have hG : ∀ G, AgrS G (h ++ [s]) g.length → AgrS G h g.length ∧ G[h.length]? = some s := fun G hG =>
  ⟨hG.lo (List.prefix_append _ _), (hG h.length hl (by simp)).trans hh⟩
 refine ⟨hp.trans (List.prefix_append _ _), by simp, Or.inr hl, fun x hx e => ?_, fun G h0 k i ha => ?_, fun G h0 i j m hr ha => bw G (hG G h0).1 (hG G h0).2 i j m hr ha⟩
 ·by_cases h1 : x < h.length
  ·rw [List.getElem?_append_left h1] at e; exact hna x hx e
  ·rcases Nat.lt_or_eq_of_le (Nat.le_of_not_lt h1) with h2 | h2
   ·rw [List.getElem?_eq_none (by simp; omega)] at e; cases e
   ·subst h2; rw [hh] at e; exact hs (Option.some.inj e)
 ·cases k with
  | zero => exact ha.elim
  | succ k => exact fw G (hG G h0).1 (hG G h0).2 k i ha
theorem no_acc_refl (g : List St) : ∀ x, g.length ≤ x → g[x]? ≠ some .acc := fun x hx e => by rw [List.getElem?_eq_none hx] at e; cases e
theorem good_eat (l : List Int) (F : Nat → Prop) (p : Nat → Bool) (g : List St) (nx : Nat) : GoodAt l F (fun i j => j = i + 1 ∧ i < l.length ∧ p (l.getD i 0).toNat = true) g nx (g ++ [.eat p nx], g.length) :=
 good_put (List.prefix_refl _) (no_acc_refl g) (fun e => by cases e)
  (fun G _ e k i ha => by have h := (accN_eat e).1 ha; exact ⟨i + 1, k, by omega, ⟨rfl, h.1, h.2.1⟩, h.2.2⟩)
  (fun G _ e i j m hr ha => ⟨m + 1, (accN_eat e).2 ⟨hr.2.1, hr.2.2, by rw [← hr.1]; exact ha⟩⟩)
theorem good_beg (l : List Int) (F : Nat → Prop) (g : List St) (nx : Nat) : GoodAt l F (fun i j => i = j ∧ i = 0) g nx (g ++ [.beg nx], g.length) :=
 good_put (List.prefix_refl _) (no_acc_refl g) (fun e => by cases e)
  (fun G _ e k i ha => by have h := (accN_beg e).1 ha; exact ⟨i, k, by omega, ⟨rfl, h.1⟩, h.2⟩)
  (fun G _ e i j m hr ha => ⟨m + 1, (accN_beg e).2 ⟨hr.2, by rw [hr.1]; exact ha⟩⟩)
theorem good_fin (l : List Int) (F : Nat → Prop) (g : List St) (nx : Nat) : GoodAt l F (fun i j => i = j ∧ i = l.length) g nx (g ++ [.fin nx], g.length) :=
 good_put (List.prefix_refl _) (no_acc_refl g) (fun e => by cases e)
  (fun G _ e k i ha => by have h := (accN_fin e).1 ha; exact ⟨i, k, by omega, ⟨rfl, h.1⟩, h.2⟩)
  (fun G _ e i j m hr ha => ⟨m + 1, (accN_fin e).2 ⟨hr.2, by rw [hr.1]; exact ha⟩⟩)
theorem good_alt {l : List Int} {F : Nat → Prop} {R1 R2 : Nat → Nat → Prop} {g : List St} {nx : Nat} {r q : List St × Nat} (h2 : GoodAt l F R2 g nx r) (h1 : GoodAt l F R1 r.1 nx q) : GoodAt l F (fun i j => R1 i j ∨ R2 i j) g nx (q.1 ++ [.fork q.2 r.2], q.1.length) := by
 have hl := pre_len h2.pre
 refine good_put (h2.pre.trans h1.pre) (fun x hx => ?_) (fun e => by cases e) (fun G hG e k i ha => ?_) (fun G hG e i j m hr ha => ?_)
 ·by_cases hx2 : x < r.1.length
  ·rw [pre_at h1.pre hx2]; exact h2.noacc x hx
  ·exact h1.noacc x (Nat.le_of_not_lt hx2)
 ·rcases (accN_fork e).1 ha with h | h
  ·obtain ⟨j, m, hm, hr, h'⟩ := h1.fw G (hG.hi hl) k i h
   exact ⟨j, m, by omega, Or.inl hr, h'⟩
  ·obtain ⟨j, m, hm, hr, h'⟩ := h2.fw G (hG.lo h1.pre) k i h
   exact ⟨j, m, by omega, Or.inr hr, h'⟩
 ·rcases hr with hr | hr
  ·obtain ⟨k, hk⟩ := h1.bw G (hG.hi hl) i j m hr ha
   exact ⟨k + 1, (accN_fork e).2 (Or.inl hk)⟩
  ·obtain ⟨k, hk⟩ := h2.bw G (hG.lo h1.pre) i j m hr ha
   exact ⟨k + 1, (accN_fork e).2 (Or.inr hk)⟩
def GoodB (l : List Int) (F : Nat → Prop) (R : Nat → Nat → Prop) (B : GB) : Prop := ∀ g nx, nx < g.length → GoodAt l F R g nx (B g nx)
theorem good_req {l : List Int} {F : Nat → Prop} {R : Nat → Nat → Prop} {B : GB} (hB : GoodB l F R B) : ∀ k, GoodB l F (iterR R k) (reqB B k)
 | 0 => fun g nx h => GoodAt.refl l F h
 | k + 1 => fun g nx h => by
  have h1 := hB g nx h
  unfold reqB
  split
  ·rename_i e
   rcases h1.new with ⟨_, hi⟩ | hn
   ·have h2 := h1.congr (R' := iterR R (k + 1)) fun i j => (hi i j).trans (iterR_id hi (k + 1) i j).symm
    have e3 : ((B g nx).1, nx) = B g nx := Prod.ext rfl e.symm
    rw [e3]
    exact h2
   ·omega
  ·refine (h1.comp (good_req hB k (B g nx).1 (B g nx).2 h1.lt)).congr fun i j => ?_
   exact ⟨fun ⟨m, a, b⟩ => (iterR_add R 1 k i j).2 ⟨m, a, iterR_one.2 b⟩, fun h => by
    obtain ⟨m, a, b⟩ := (iterR_add R 1 k i j).1 h
    exact ⟨m, a, iterR_one.1 b⟩⟩
theorem good_opt {l : List Int} {F : Nat → Prop} {R : Nat → Nat → Prop} {B : GB} (hB : GoodB l F R B) {g0 : List St} {nx : Nat} (hnx : nx < g0.length) : ∀ k c g s, GoodAt l F (fun i j => ∃ q, q ≤ c ∧ iterR R q i j) g0 nx (g, s) → GoodAt l F (fun i j => ∃ q, q ≤ c + k ∧ iterR R q i j) g0 nx (optB B nx k g s)
 | 0, c, g, s, h => h
 | k + 1, c, g, s, h => by
  unfold optB
  have h1 := hB g s h.lt
  have hl := pre_len h.pre
  have hp : g <+: (B g s).1 := h1.pre
  refine (good_opt hB hnx k (c + 1) _ _ (good_put (h.pre.trans hp) (fun x hx => ?_) (fun e => by cases e) (fun G hG e k' i ha => ?_) (fun G hG e i j m hr ha => ?_))).congr fun i j => by rw [Nat.add_assoc, Nat.add_comm 1 k]
  ·by_cases hx2 : x < g.length
   ·rw [pre_at hp hx2]; exact h.noacc x hx
   ·exact h1.noacc x (Nat.le_of_not_lt hx2)
  ·rcases (accN_fork e).1 ha with h' | h'
   ·obtain ⟨j, m, hm, hr, h3⟩ := h1.fw G (hG.hi hl) k' i h'
    obtain ⟨j', m', hm', ⟨q, hq, hr'⟩, h4⟩ := h.fw G (hG.lo hp) m j h3
    exact ⟨j', m', by omega, ⟨q + 1, by omega, j, hr, hr'⟩, h4⟩
   ·exact ⟨i, k', by omega, ⟨0, by omega, rfl⟩, h'⟩
  ·obtain ⟨q, hq, hr⟩ := hr
   cases q with
   | zero => exact ⟨m + 1, (accN_fork e).2 (Or.inr (by have e' : i = j := hr; rw [e']; exact ha))⟩
   | succ q =>
    obtain ⟨t, ht, hr'⟩ := hr
    obtain ⟨k1, hk1⟩ := h.bw G (hG.lo hp) t j m ⟨q, by omega, hr'⟩ ha
    obtain ⟨k2, hk2⟩ := h1.bw G (hG.hi hl) i t k1 ht hk1
    exact ⟨k2 + 1, (accN_fork e).2 (Or.inl hk2)⟩
theorem pre_set {g h : List St} (hp : g <+: h) (s : St) (hx : g.length < h.length) : g <+: h.set g.length s := by
 obtain ⟨t, rfl⟩ := hp
 rw [List.set_append_right _ _ (Nat.le_refl _)]
 exact List.prefix_append _ _
theorem good_star {l : List Int} {F : Nat → Prop} {R : Nat → Nat → Prop} {B : GB} (hB : GoodB l F R B) (g : List St) (nx : Nat) : GoodAt l F (fun i j => ∃ q, iterR R q i j) g nx (starB B g nx) := by
 have h1 := hB (g ++ [.fork 0 nx]) g.length (by simp)
 unfold starB
 generalize hr : B (g ++ [.fork 0 nx]) g.length = r at h1 ⊢
 have hgr : g <+: r.1 := (List.prefix_append _ _).trans h1.pre
 have hlen : g.length < r.1.length := by have := pre_len h1.pre; simp at this; omega
 have hL : (r.1.set g.length (.fork r.2 nx))[g.length]? = some (.fork r.2 nx) := List.getElem?_set_self hlen
 have hO : ∀ x, ¬ x = g.length → (r.1.set g.length (.fork r.2 nx))[x]? = r.1[x]? := fun x hx => List.getElem?_set_ne (fun e => hx e.symm)
 have hag : ∀ G, AgrS G (r.1.set g.length (.fork r.2 nx)) g.length → AgrS G r.1 (g ++ [St.fork 0 nx]).length ∧ G[g.length]? = some (.fork r.2 nx) := fun G hG => by
  refine ⟨fun x h2 h3 => ?_, (hG g.length (Nat.le_refl _) (by simpa using hlen)).trans hL⟩
  simp at h2
  exact (hG x (by omega) (by simpa using h3)).trans (hO x (by omega))
 refine ⟨pre_set hgr _ hlen, by simpa using hlen, Or.inr (Nat.le_refl _), fun x hx e => ?_, fun G hG => ?_, fun G hG => ?_⟩
 ·by_cases h2 : x = g.length
  ·subst h2; rw [hL] at e; cases e
  ·rw [hO x h2] at e
   exact h1.noacc x (by simp; omega) e
 ·obtain ⟨ha, he⟩ := hag G hG
  intro k
  induction k using Nat.strongRecOn with
  | ind k ih =>
   intro i hac
   cases k with
   | zero => exact hac.elim
   | succ k =>
    rcases (accN_fork he).1 hac with h | h
    ·obtain ⟨j, m, hm, hr, h3⟩ := h1.fw G ha k i h
     obtain ⟨j', m', hm', ⟨q, hq⟩, h4⟩ := ih m (by omega) j h3
     exact ⟨j', m', by omega, ⟨q + 1, j, hr, hq⟩, h4⟩
    ·exact ⟨i, k, by omega, ⟨0, rfl⟩, h⟩
 ·obtain ⟨ha, he⟩ := hag G hG
  rintro i j m ⟨q, hq⟩ hac
  induction q generalizing i with
  | zero => exact ⟨m + 1, (accN_fork he).2 (Or.inr (by have e' : i = j := hq; rw [e']; exact hac))⟩
  | succ q ih =>
   obtain ⟨t, ht, hq'⟩ := hq
   obtain ⟨k1, hk1⟩ := ih t hq'
   obtain ⟨k2, hk2⟩ := h1.bw G ha i t k1 ht hk1
   exact ⟨k2 + 1, (accN_fork he).2 (Or.inl hk2)⟩
theorem optB_neg (B : GB) (nx : Nat) (g : List St) (s : Nat) (mn mx : Int) (h : mx - mn ≤ 0) : optB B nx (mx - mn).toNat g s = (g, s) := by
 rw [show (mx - mn).toNat = 0 by omega]
 rfl
theorem good_times {l : List Int} {F : Nat → Prop} {R : Nat → Nat → Prop} {B : GB} (hB : GoodB l F R B) (mn mx : Int) (h0 : 0 ≤ mn) (hx : mx = -1 ∨ mn ≤ mx) : GoodB l F (fun i j => ∃ k : Nat, mn ≤ k ∧ (mx < 0 ∨ (k : Int) ≤ mx) ∧ iterR R k i j) (timesB B mn mx) := by
 intro g nx h
 unfold timesB
 rcases hx with hx | hx
 ·rw [optB_neg _ _ _ _ _ _ (by omega)]
  unfold bgnB
  rw [if_pos hx]
  have h1 := good_star hB g nx
  refine (h1.comp (good_req hB mn.toNat _ _ h1.lt)).congr fun i j => ?_
  constructor
  ·rintro ⟨t, h2, q, h3⟩
   exact ⟨mn.toNat + q, by omega, Or.inl (by omega), (iterR_add R q _ i j).2 ⟨t, h2, h3⟩⟩
  ·rintro ⟨k, h2, _, h3⟩
   have e : k = mn.toNat + (k - mn.toNat) := by omega
   rw [e] at h3
   obtain ⟨t, h4, h5⟩ := (iterR_add R _ _ i j).1 h3
   exact ⟨t, h4, _, h5⟩
 ·unfold bgnB
  rw [if_neg (by omega)]
  have h0' : GoodAt l F (fun i j => ∃ q, q ≤ 0 ∧ iterR R q i j) g nx (g, nx) := (GoodAt.refl l F h).congr fun i j => ⟨fun e => ⟨0, Nat.le_refl _, e⟩, fun ⟨q, hq, e⟩ => by
   have e0 : q = 0 := by omega
   subst e0
   exact e⟩
  have h1 := good_opt hB h (mx - mn).toNat 0 g nx h0'
  refine (h1.comp (good_req hB mn.toNat _ _ h1.lt)).congr fun i j => ?_
  constructor
  ·rintro ⟨t, h2, q, hq, h3⟩
   exact ⟨mn.toNat + q, by omega, Or.inr (by omega), (iterR_add R q _ i j).2 ⟨t, h2, h3⟩⟩
  ·rintro ⟨k, h2, h2', h3⟩
   have e : k = mn.toNat + (k - mn.toNat) := by omega
   rw [e] at h3
   obtain ⟨t, h4, h5⟩ := (iterR_add R _ _ i j).1 h3
   exact ⟨t, h4, _, by omega, h5⟩
theorem good_nd {l : List Int} {F : Nat → Prop} {kd : Int} {p : Nat → Bool} {mn mx : Int} {c a : Nat → Nat → Prop} {C A : GB} {n : Nat} (hk : okN kd mn mx n) (hC : GoodB l F c C) (hA : 0 < n → GoodB l F a A) : GoodB l F (ndM l kd p mn mx c a) (ndB kd p mn mx C A) := by
 intro g nx h
 unfold ndM ndB
 split
 ·exact good_eat l F p g nx
 split
 ·exact good_beg l F g nx
 split
 ·exact good_fin l F g nx
 split
 ·rename_i e; exact hA (hk.1 e) g nx h
 split
 ·rename_i e; exact good_times hC mn mx (hk.2 e).1 (hk.2 e).2.1 g nx h
 ·exact hC g nx h
theorem Fo.M_row (l : List Int) (kd : Int) (p : Nat → Bool) (mn mx gp : Int) (kids rest : Fo) (i j : Nat) : (Fo.cons kd p mn mx gp kids rest).M l true i j ↔ ∃ k, ndM l kd p mn mx (kids.M l true) (kids.M l false) i k ∧ rest.M l true k j := by
 conv => lhs; unfold Fo.M
 simp
theorem Fo.M_alt (l : List Int) (kd : Int) (p : Nat → Bool) (mn mx gp : Int) (kids rest : Fo) (i j : Nat) : (Fo.cons kd p mn mx gp kids rest).M l false i j ↔ ndM l kd p mn mx (kids.M l true) (kids.M l false) i j ∨ rest.M l false i j := by
 conv => lhs; unfold Fo.M
 simp
theorem Fo.good (l : List Int) (F : Nat → Prop) : ∀ f : Fo, f.Ok → GoodB l F (f.M l true) (f.B true) ∧ (0 < f.len → GoodB l F (f.M l false) (f.B false))
 | .nil, _ => ⟨fun g nx h => (GoodAt.refl l F h).congr fun i j => by unfold Fo.M; simp, fun h => by cases h⟩
 | .cons kd p mn mx gp kids rest, ⟨h1, h2, h3⟩ => by
  obtain ⟨k1, k2⟩ := Fo.good l F kids h2
  obtain ⟨r1, r2⟩ := Fo.good l F rest h3
  have hn : GoodB l F (ndM l kd p mn mx (kids.M l true) (kids.M l false)) (ndB kd p mn mx (kids.B true) (kids.B false)) := good_nd h1 k1 k2
  refine ⟨fun g nx h => ?_, fun _ g nx h => ?_⟩
  ·have h4 := r1 g nx h
   have h5 := (h4.comp (hn _ _ h4.lt)).congr fun i j => (Fo.M_row l kd p mn mx gp kids rest i j).symm
   unfold Fo.B
   simpa using h5
  ·unfold Fo.B
   by_cases hz : rest.len = 0
   ·simp only [Bool.false_eq_true, if_false, if_pos hz]
    refine (hn g nx h).congr fun i j => ⟨fun h => (Fo.M_alt ..).2 (Or.inl h), fun h => ((Fo.M_alt ..).1 h).elim id fun h => ?_⟩
    cases rest with
    | nil => unfold Fo.M at h; simp at h
    | cons => unfold Fo.len at hz; omega
   ·have h4 := r2 (by omega) g nx h
    have h5 := (good_alt h4 (hn (rest.B false g nx).1 nx (Nat.lt_of_lt_of_le h (pre_len h4.pre)))).congr fun i j => (Fo.M_alt l kd p mn mx gp kids rest i j).symm
    simp only [Bool.false_eq_true, if_false, if_neg hz]
    exact h5
theorem Nd.good (l : List Int) (F : Nat → Prop) (n : Nd) (h : n.Ok) : GoodB l F (n.M l) n.B := good_nd h.1 (Fo.good l F _ h.2).1 (Fo.good l F _ h.2).2
theorem Nd.acc_iff (l : List Int) (F : Nat → Prop) (n : Nd) (h : n.Ok) (i : Nat) : (∃ k, AccN l F n.G.1 k n.G.2 i) ↔ ∃ j, n.M l i j ∧ F j := by
 have hg := Nd.good l F n h [.acc] 0 (by simp)
 have h0 : n.G.1[0]? = some .acc := (pre_at hg.pre (by simp)).trans rfl
 have ha : AgrS n.G.1 (n.B [.acc] 0).1 1 := fun x _ _ => rfl
 constructor
 ·rintro ⟨k, hk⟩
  obtain ⟨j, m, _, h1, h2⟩ := hg.fw _ ha k i hk
  cases m with
  | zero => exact h2.elim
  | succ m => exact ⟨j, h1, (accN_acc h0).1 h2⟩
 ·rintro ⟨j, h1, h2⟩
  exact hg.bw _ ha i j 1 h1 ((accN_acc h0).2 h2)
theorem Nd.g_acc (n : Nd) (h : n.Ok) (x : Nat) : n.G.1[x]? = some .acc ↔ x = 0 := by
 have hg := Nd.good [] (fun _ => True) n h [.acc] 0 (by simp)
 constructor
 ·intro e
  by_cases hx : x = 0
  ·exact hx
  ·exact (hg.noacc x (by simp; omega) e).elim
 ·rintro rfl
  exact (pre_at hg.pre (by simp)).trans rfl
theorem Nd.g_start (n : Nd) (h : n.Ok) : n.G.2 < n.G.1.length := (Nd.good [] (fun _ => True) n h [.acc] 0 (by simp)).lt
def unm : Nat → List Nat → Nat
 | 0, _ => 0
 | n + 1, L => unm n L + (if L.contains n then 0 else 1)
theorem unm_nil : ∀ n, unm n [] = n
 | 0 => rfl
 | n + 1 => by unfold unm; rw [unm_nil n]; rfl
theorem unm_ge : ∀ (n : Nat) (L : List Nat) (x : Nat), n ≤ x → unm n (L ++ [x]) = unm n L
 | 0, _, _, _ => rfl
 | n + 1, L, x, h => by
  unfold unm
  rw [unm_ge n L x (by omega)]
  have : ((L ++ [x]).contains n) = L.contains n := by
   rw [Bool.eq_iff_iff]
   simp only [List.contains_iff_mem, List.mem_append, List.mem_singleton]
   exact ⟨fun h => h.elim id (fun e => by omega), Or.inl⟩
  rw [this]
theorem unm_add : ∀ (n : Nat) (L : List Nat) (x : Nat), x < n → L.contains x = false → unm n (L ++ [x]) + 1 = unm n L
 | 0, _, _, h, _ => by omega
 | n + 1, L, x, h, hx => by
  unfold unm
  by_cases e : x = n
  ·subst e
   have e : (L ++ [x]).contains x = true := by simp
   rw [unm_ge x L x (Nat.le_refl _), hx, e]
   simp
  ·have : ((L ++ [x]).contains n) = L.contains n := by
    rw [Bool.eq_iff_iff]
    simp only [List.contains_iff_mem, List.mem_append, List.mem_singleton]
    exact ⟨fun h => h.elim id (fun e' => (e e'.symm).elim), Or.inl⟩
   have ih := unm_add n L x (by omega) hx
   rw [this]
   omega
def addF (G : List St) (pb pe : Bool) : Nat → Nat → List Nat → List Nat
 | 0, _, L => L
 | k + 1, x, L =>
  if L.contains x then L else
  match G[x]? with
  | some (.fork y z) => addF G pb pe k z (addF G pb pe k y (L ++ [x]))
  | some (.beg y) => if pb then addF G pb pe k y (L ++ [x]) else L ++ [x]
  | some (.fin y) => if pe then addF G pb pe k y (L ++ [x]) else L ++ [x]
  | _ => L ++ [x]
def epsF (G : List St) (pb pe : Bool) (x : Nat) : List Nat :=
 match G[x]? with
 | some (.fork y z) => [y, z]
 | some (.beg y) => if pb then [y] else []
 | some (.fin y) => if pe then [y] else []
 | _ => []
def St.to : St → List Nat
 | .acc => []
 | .eat _ y => [y]
 | .beg y => [y]
 | .fin y => [y]
 | .fork y z => [y, z]
def ClG (G : List St) : Prop := ∀ (x : Nat) (s : St), G[x]? = some s → ∀ y ∈ s.to, y < G.length
inductive Rch (G : List St) (pb pe : Bool) : Nat → Nat → Prop
 | refl (x) : Rch G pb pe x x
 | step {x y z} : y ∈ epsF G pb pe x → Rch G pb pe y z → Rch G pb pe x z
theorem epsF_lt {G : List St} (hc : ClG G) {pb pe : Bool} {x y : Nat} (h : y ∈ epsF G pb pe x) : y < G.length := by
 unfold epsF at h
 split at h
 ·rename_i e; exact hc x _ e y h
 ·rename_i e
  split at h
  ·exact hc x _ e y h
  ·cases h
 ·rename_i e
  split at h
  ·exact hc x _ e y h
  ·cases h
 ·cases h
structure AddOk (G : List St) (pb pe : Bool) (x : Nat) (L L' : List Nat) : Prop where
 pre : L <+: L'
 lt : (∀ y ∈ L, y < G.length) → ∀ y ∈ L', y < G.length
 unm : unm G.length L' ≤ unm G.length L
 self : x ∈ L'
 src : ∀ y ∈ L', y ∈ L ∨ Rch G pb pe x y
 cl : ∀ y ∈ L', y ∉ L → ∀ z ∈ epsF G pb pe y, z ∈ L'
theorem mem_pre {L L' : List Nat} (h : L <+: L') {y : Nat} (hy : y ∈ L) : y ∈ L' := h.subset hy
theorem addOk_leaf {G : List St} {pb pe : Bool} {x : Nat} {L : List Nat} (hx : x < G.length) (hn : L.contains x = false) (he : epsF G pb pe x = []) : AddOk G pb pe x L (L ++ [x]) :=
 ⟨List.prefix_append _ _, fun h y hy => by rcases List.mem_append.1 hy with h1 | h1; exact h y h1; rw [List.mem_singleton.1 h1]; exact hx,
  by have := unm_add G.length L x hx hn; omega, by simp,
  fun y hy => by rcases List.mem_append.1 hy with h1 | h1; exact Or.inl h1; exact Or.inr (by rw [List.mem_singleton.1 h1]; exact .refl _),
  fun y hy hny z hz => by
   rcases List.mem_append.1 hy with h1 | h1
   ·exact (hny h1).elim
   ·rw [List.mem_singleton.1 h1, he] at hz; cases hz⟩
theorem addOk_one {G : List St} {pb pe : Bool} {x y : Nat} {L L' : List Nat} (hx : x < G.length) (hn : L.contains x = false) (he : epsF G pb pe x = [y]) (h : AddOk G pb pe y (L ++ [x]) L') : AddOk G pb pe x L L' := by
 refine ⟨(List.prefix_append _ _).trans h.pre, fun h1 => h.lt fun z hz => ?_, ?_, mem_pre h.pre (by simp), fun z hz => ?_, fun z hz hnz t ht => ?_⟩
 ·rcases List.mem_append.1 hz with h2 | h2
  ·exact h1 z h2
  ·rw [List.mem_singleton.1 h2]; exact hx
 ·have := unm_add G.length L x hx hn
  have := h.unm
  omega
 ·rcases h.src z hz with h2 | h2
  ·rcases List.mem_append.1 h2 with h3 | h3
   ·exact Or.inl h3
   ·exact Or.inr (by rw [List.mem_singleton.1 h3]; exact .refl _)
  ·exact Or.inr (.step (by rw [he]; simp) h2)
 ·by_cases hzx : z = x
  ·rw [hzx, he, List.mem_singleton] at ht
   rw [ht]
   exact h.self
  ·exact h.cl z hz (by simp [hnz, hzx]) t ht
theorem addOk_two {G : List St} {pb pe : Bool} {x y y2 : Nat} {L L1 L' : List Nat} (hx : x < G.length) (hn : L.contains x = false) (he : epsF G pb pe x = [y, y2]) (h : AddOk G pb pe y (L ++ [x]) L1) (h' : AddOk G pb pe y2 L1 L') : AddOk G pb pe x L L' := by
 refine ⟨((List.prefix_append _ _).trans h.pre).trans h'.pre, fun h1 => h'.lt (h.lt fun z hz => ?_), ?_, mem_pre h'.pre (mem_pre h.pre (by simp)), fun z hz => ?_, fun z hz hnz t ht => ?_⟩
 ·rcases List.mem_append.1 hz with h2 | h2
  ·exact h1 z h2
  ·rw [List.mem_singleton.1 h2]; exact hx
 ·have := unm_add G.length L x hx hn
  have := h.unm
  have := h'.unm
  omega
 ·rcases h'.src z hz with h0 | h0
  ·rcases h.src z h0 with h2 | h2
   ·rcases List.mem_append.1 h2 with h3 | h3
    ·exact Or.inl h3
    ·exact Or.inr (by rw [List.mem_singleton.1 h3]; exact .refl _)
   ·exact Or.inr (.step (by rw [he]; simp) h2)
  ·exact Or.inr (.step (by rw [he]; simp) h0)
 ·by_cases hzx : z = x
  ·rw [hzx, he] at ht
   rcases List.mem_cons.1 ht with e | e
   ·rw [e]; exact mem_pre h'.pre h.self
   ·rw [List.mem_singleton.1 e]; exact h'.self
  ·by_cases hz1 : z ∈ L1
   ·exact mem_pre h'.pre (h.cl z hz1 (by simp [hnz, hzx]) t ht)
   ·exact h'.cl z hz hz1 t ht
theorem addF_ok {G : List St} (hc : ClG G) (pb pe : Bool) : ∀ k x L, unm G.length L < k → x < G.length → L.contains x = false → AddOk G pb pe x L (addF G pb pe k x L) := by
 intro k
 induction k with
 | zero => intro x L h; omega
 | succ k ih =>
  intro x L h hx hn
  have hu := unm_add G.length L x hx hn
  have any : ∀ y L, unm G.length L < k → y < G.length → AddOk G pb pe y L (addF G pb pe k y L) := by
   intro y L h1 h2
   by_cases h3 : L.contains y
   ·cases k with
    | zero => omega
    | succ k =>
     have e : addF G pb pe (k + 1) y L = L := by unfold addF; rw [if_pos h3]
     rw [e]
     exact ⟨List.prefix_refl _, fun h => h, Nat.le_refl _, List.contains_iff_mem.1 h3, fun _ h => Or.inl h, fun z hz hnz => (hnz hz).elim⟩
   ·exact ih y L h1 h2 (by simpa using h3)
  unfold addF
  rw [if_neg (by rw [hn]; decide)]
  have hl : ∀ y ∈ epsF G pb pe x, y < G.length := fun y hy => epsF_lt hc hy
  split <;> rename_i e
  ·rename_i y z
   have he : epsF G pb pe x = [y, z] := by unfold epsF; rw [e]
   rw [he] at hl
   have h1 := any y (L ++ [x]) (by omega) (hl y (by simp))
   exact addOk_two hx hn he h1 (any z _ (by have := h1.unm; omega) (hl z (by simp)))
  ·rename_i y
   split <;> rename_i hp
   ·have he : epsF G pb pe x = [y] := by unfold epsF; rw [e]; exact if_pos hp
    rw [he] at hl
    exact addOk_one hx hn he (any y _ (by omega) (hl y (by simp)))
   ·exact addOk_leaf hx hn (by unfold epsF; rw [e]; exact if_neg hp)
  ·rename_i y
   split <;> rename_i hp
   ·have he : epsF G pb pe x = [y] := by unfold epsF; rw [e]; exact if_pos hp
    rw [he] at hl
    exact addOk_one hx hn he (any y _ (by omega) (hl y (by simp)))
   ·exact addOk_leaf hx hn (by unfold epsF; rw [e]; exact if_neg hp)
  ·rename_i h1 h2
   refine addOk_leaf hx hn ?_
   unfold epsF
   split
   ·rename_i e'; exact (h1 _ _ e').elim
   ·rename_i e'; exact (h2 _ e').elim
   ·rename_i e'; exact (e _ e').elim
   ·rfl
theorem addF_any {G : List St} (hc : ClG G) (pb pe : Bool) (k x : Nat) (L : List Nat) (h : unm G.length L < k) (hx : x < G.length) : AddOk G pb pe x L (addF G pb pe k x L) := by
 by_cases h3 : L.contains x
 ·cases k with
  | zero => omega
  | succ k =>
   have e : addF G pb pe (k + 1) x L = L := by unfold addF; rw [if_pos h3]
   rw [e]
   exact ⟨List.prefix_refl _, fun h => h, Nat.le_refl _, List.contains_iff_mem.1 h3, fun _ h => Or.inl h, fun z hz hnz => (hnz hz).elim⟩
 ·exact addF_ok hc pb pe k x L h hx (by simpa using h3)
theorem unm_le (n : Nat) (L : List Nat) : unm n L ≤ n := by
 induction n with
 | zero => exact Nat.le_refl _
 | succ n ih => unfold unm; split <;> omega
theorem clg_put {g : List St} {s : St} (h : ClG g) (hs : ∀ y ∈ s.to, y < g.length + 1) : ClG (g ++ [s]) := by
 intro x t ht y hy
 rw [List.length_append, List.length_singleton]
 by_cases hx : x < g.length
 ·rw [List.getElem?_append_left hx] at ht
  have := h x t ht y hy
  omega
 ·rcases Nat.lt_or_eq_of_le (Nat.le_of_not_lt hx) with h2 | h2
  ·rw [List.getElem?_eq_none (by simp; omega)] at ht; cases ht
  ·subst h2
   rw [List.getElem?_append_right (Nat.le_refl _), Nat.sub_self] at ht
   have e : s = t := Option.some.inj ht
   subst e
   exact hs y hy
theorem clg_set {g : List St} {s : St} {i : Nat} (h : ClG g) (hs : ∀ y ∈ s.to, y < g.length) : ClG (g.set i s) := by
 intro x t ht y hy
 rw [List.length_set]
 by_cases e : i = x
 ·subst e
  by_cases hi : i < g.length
  ·rw [List.getElem?_set_self hi] at ht
   have e : s = t := Option.some.inj ht
   subst e
   exact hs y hy
  ·rw [List.getElem?_eq_none (by simp; omega)] at ht; cases ht
 ·rw [List.getElem?_set_ne e] at ht
  exact h x t ht y hy
def ClB (B : GB) : Prop := ∀ g nx, nx < g.length → ClG g → ClG (B g nx).1
def Gd (R : Nat → Nat → Prop) (B : GB) : Prop := GoodB [] (fun _ => True) R B
theorem cl_req {R : Nat → Nat → Prop} {B : GB} (hB : Gd R B) (cB : ClB B) : ∀ k, ClB (reqB B k)
 | 0 => fun g nx _ h => h
 | k + 1 => fun g nx h hc => by
  unfold reqB
  split
  ·exact cB g nx h hc
  ·exact cl_req hB cB k _ _ (hB g nx h).lt (cB g nx h hc)
theorem cl_opt {R : Nat → Nat → Prop} {B : GB} (hB : Gd R B) (cB : ClB B) (nx : Nat) : ∀ k g s, nx < g.length → s < g.length → ClG g → ClG (optB B nx k g s).1
 | 0, _, _, _, _, h => h
 | k + 1, g, s, hn, hs, hc => by
  unfold optB
  have h1 := hB g s hs
  have hl := pre_len h1.pre
  exact cl_opt hB cB nx k _ _ (by simp; omega) (by simp) (clg_put (cB g s hs hc) fun y hy => by
   rcases List.mem_cons.1 hy with e | e
   ·rw [e]; have := h1.lt; omega
   ·rw [List.mem_singleton.1 e]; omega)
theorem cl_star {R : Nat → Nat → Prop} {B : GB} (hB : Gd R B) (cB : ClB B) : ClB (starB B) := by
 intro g nx h hc
 have h0 : ClG (g ++ [.fork 0 nx]) := clg_put hc fun y hy => by
  rcases List.mem_cons.1 hy with e | e
  ·omega
  ·rw [List.mem_singleton.1 e]; omega
 have h1 := hB (g ++ [.fork 0 nx]) g.length (by simp)
 have hl := pre_len h1.pre
 rw [List.length_append, List.length_singleton] at hl
 exact clg_set (cB _ _ (by simp) h0) fun y hy => by
  rcases List.mem_cons.1 hy with e | e
  ·rw [e]; exact h1.lt
  ·rw [List.mem_singleton.1 e]; omega
theorem cl_times {R : Nat → Nat → Prop} {B : GB} (hB : Gd R B) (cB : ClB B) (mn mx : Int) (h0 : 0 ≤ mn) (hx : mx = -1 ∨ mn ≤ mx) : ClB (timesB B mn mx) := by
 intro g nx h hc
 unfold timesB
 rcases hx with hx | hx
 ·rw [optB_neg _ _ _ _ _ _ (by omega)]
  unfold bgnB
  rw [if_pos hx]
  exact cl_req hB cB _ _ _ (good_star hB g nx).lt (cl_star hB cB g nx h hc)
 ·unfold bgnB
  rw [if_neg (by omega)]
  have h0' : GoodAt [] (fun _ => True) (fun i j => ∃ q, q ≤ 0 ∧ iterR R q i j) g nx (g, nx) := (GoodAt.refl _ _ h).congr fun i j => ⟨fun e => ⟨0, Nat.le_refl _, e⟩, fun ⟨q, hq, e⟩ => by
   have e0 : q = 0 := by omega
   subst e0
   exact e⟩
  exact cl_req hB cB _ _ _ (good_opt hB h (mx - mn).toNat 0 g nx h0').lt (cl_opt hB cB nx _ _ _ h h hc)
theorem cl_nd {kd : Int} {p : Nat → Bool} {mn mx : Int} {c : Nat → Nat → Prop} {C A : GB} {n : Nat} (hk : okN kd mn mx n) (hC : Gd c C) (cC : ClB C) (cA : 0 < n → ClB A) : ClB (ndB kd p mn mx C A) := by
 intro g nx h hc
 unfold ndB
 have one : ∀ s : St, s.to = [nx] → ClG (g ++ [s]) := fun s hs => clg_put hc fun y hy => by rw [hs, List.mem_singleton] at hy; omega
 split
 ·exact one _ rfl
 split
 ·exact one _ rfl
 split
 ·exact one _ rfl
 split
 ·rename_i e; exact cA (hk.1 e) g nx h hc
 split
 ·rename_i e; exact cl_times hC cC mn mx (hk.2 e).1 (hk.2 e).2.1 g nx h hc
 ·exact cC g nx h hc
theorem Fo.clB : ∀ f : Fo, f.Ok → ClB (f.B true) ∧ (0 < f.len → ClB (f.B false))
 | .nil, _ => ⟨fun _ _ _ h => h, fun h => by cases h⟩
 | .cons kd p mn mx gp kids rest, ⟨h1, h2, h3⟩ => by
  obtain ⟨k1, k2⟩ := Fo.clB kids h2
  obtain ⟨r1, r2⟩ := Fo.clB rest h3
  obtain ⟨g1, g2⟩ := Fo.good [] (fun _ => True) kids h2
  obtain ⟨q1, q2⟩ := Fo.good [] (fun _ => True) rest h3
  have gn : Gd _ (ndB kd p mn mx (kids.B true) (kids.B false)) := good_nd h1 g1 g2
  have hn : ClB (ndB kd p mn mx (kids.B true) (kids.B false)) := cl_nd h1 g1 k1 k2
  refine ⟨fun g nx h hc => ?_, fun _ g nx h hc => ?_⟩
  ·have h4 := hn _ _ (q1 g nx h).lt (r1 g nx h hc)
   unfold Fo.B
   simpa using h4
  ·unfold Fo.B
   by_cases hz : rest.len = 0
   ·simp only [Bool.false_eq_true, if_false, if_pos hz]
    exact hn g nx h hc
   ·simp only [Bool.false_eq_true, if_false, if_neg hz]
    have hr := q2 (by omega) g nx h
    have hx : nx < (rest.B false g nx).1.length := Nat.lt_of_lt_of_le h (pre_len hr.pre)
    have hq := gn (rest.B false g nx).1 nx hx
    have hl := pre_len hq.pre
    exact clg_put (hn _ _ hx (r2 (by omega) g nx h hc)) fun y hy => by
     rcases List.mem_cons.1 hy with e | e
     ·rw [e]; have := hq.lt; omega
     ·rw [List.mem_singleton.1 e]; have := hr.lt; omega
theorem Nd.clG (n : Nd) (h : n.Ok) : ClG n.G.1 :=
 cl_nd h.1 (Fo.good [] (fun _ => True) _ h.2).1 (Fo.clB _ h.2).1 (Fo.clB _ h.2).2 [.acc] 0 (by simp) fun x s hs y hy => by
  cases x with
  | zero => have e : St.acc = s := Option.some.inj hs; subst e; cases hy
  | succ x => simp at hs
theorem acc_eps {l : List Int} {F : Nat → Prop} {G : List St} {i k y z : Nat} (hz : z ∈ epsF G (decide (i = 0)) (decide (i = l.length)) y) (h : AccN l F G k z i) : AccN l F G (k + 1) y i := by
 unfold epsF at hz
 split at hz
 ·rename_i e
  rcases List.mem_cons.1 hz with e2 | e2
  ·rw [e2] at h; exact (accN_fork e).2 (Or.inl h)
  ·rw [List.mem_singleton.1 e2] at h; exact (accN_fork e).2 (Or.inr h)
 ·rename_i e
  split at hz
  ·rename_i hp
   rw [List.mem_singleton.1 hz] at h
   exact (accN_beg e).2 ⟨of_decide_eq_true hp, h⟩
  ·cases hz
 ·rename_i e
  split at hz
  ·rename_i hp
   rw [List.mem_singleton.1 hz] at h
   exact (accN_fin e).2 ⟨of_decide_eq_true hp, h⟩
  ·cases hz
 ·cases hz
theorem acc_rch {l : List Int} {F : Nat → Prop} {G : List St} {i x y : Nat} (hr : Rch G (decide (i = 0)) (decide (i = l.length)) x y) : ∀ k, AccN l F G k y i → ∃ k', AccN l F G k' x i := by
 induction hr with
 | refl => exact fun k h => ⟨k, h⟩
 | step hz _ ih =>
  intro k h
  obtain ⟨k', h'⟩ := ih k h
  exact ⟨_, acc_eps hz h'⟩
theorem acc_place {l : List Int} {F : Nat → Prop} {G : List St} : ∀ (k x i : Nat), AccN l F G k x i → ∃ j, i ≤ j ∧ F j
 | 0, _, _, h => h.elim
 | k + 1, x, i, h => by
  unfold AccN at h
  split at h
  ·exact ⟨i, Nat.le_refl _, h⟩
  ·obtain ⟨j, h1, h2⟩ := acc_place k _ _ h.2.2; exact ⟨j, by omega, h2⟩
  ·exact acc_place k _ _ h.2
  ·exact acc_place k _ _ h.2
  ·exact h.elim (acc_place k _ _) (acc_place k _ _)
  ·exact h.elim
theorem rdR_re (cf : ByteArray → (Nat → Bool) × Bool) (l : List Int) (ext : Bool) (n : Nat) (bs : List Nd) (k g o : Nat) : rdR cf l ext (n + 1) (.re bs) k g o =
  match rdR cf l ext n (.br []) k g o with
  | some (.ok b k1 g1) => if (sg cf l ext k1).kd = 4 then rdR cf l ext n (.re (bs ++ [b])) (sg cf l ext k1).nx g1 o else some (.ok (joinN 5 (bs ++ [b])) k1 g1)
  | r => r := by first | (rw [rdR]; done) | (rw [rdR]; rfl)
theorem rdR_br (cf : ByteArray → (Nat → Bool) × Bool) (l : List Int) (ext : Bool) (n : Nat) (items : List Nd) (k g o : Nat) : rdR cf l ext (n + 1) (.br items) k g o =
  if endsB (sg cf l ext k).kd = true then
   (if items = [] then some (.bad (if ext = true ∧ (sg cf l ext k).kd = 3 ∧ o = 0 then 9 else 3) k) else some (.ok (joinN 4 items) k g))
  else if isByt ext (sg cf l ext k) (sg cf l ext (sg cf l ext k).nx).kd items = true then rdR cf l ext n (.br (items ++ [setN (mem (sg cf l ext k).tx)])) (sg cf l ext k).nx g o
  else if (sg cf l ext k).kd = 1 then
   (if endsP items = false then some (.bad 3 k)
   else match (sg cf l ext k).er with
    | some (c, p) => some (.bad c p)
    | none => rdR cf l ext n (.br (repL items (sg cf l ext k).lo (sg cf l ext k).hi)) (sg cf l ext k).nx g o)
  else if (sg cf l ext k).kd = 2 then
   (if g = 9 then some (.bad 5 k)
   else match rdR cf l ext n (.re []) (sg cf l ext k).nx (g + 1) (o + 1) with
    | some (.ok t k1 g1) => if (sg cf l ext k1).kd = 3 then rdR cf l ext n (.br (items ++ [grpN (g + 1 : Nat) t])) (sg cf l ext k1).nx g1 o else some (.bad 9 k1)
    | r => r)
  else match (sg cf l ext k).er with
   | some (c, p) => some (.bad c p)
   | none => rdR cf l ext n (.br (items ++ [(sg cf l ext k).nd])) (sg cf l ext k).nx g o := by first | (rw [rdR]; done) | (rw [rdR]; rfl)
theorem rdR_ind (cf : ByteArray → (Nat → Bool) × Bool) (l : List Int) (ext : Bool) (P : RM → Nat → Nat → Nat → RR → Prop)
  (re_bad : ∀ bs k g o c p, P (.br []) k g o (.bad c p) → P (.re bs) k g o (.bad c p))
  (re_on : ∀ bs k g o b k1 g1 r, P (.br []) k g o (.ok b k1 g1) → (sg cf l ext k1).kd = 4 → P (.re (bs ++ [b])) (sg cf l ext k1).nx g1 o r → P (.re bs) k g o r)
  (re_end : ∀ bs k g o b k1 g1, P (.br []) k g o (.ok b k1 g1) → (sg cf l ext k1).kd ≠ 4 → P (.re bs) k g o (.ok (joinN 5 (bs ++ [b])) k1 g1))
  (br_nil : ∀ k g o, endsB (sg cf l ext k).kd = true → P (.br []) k g o (.bad (if ext = true ∧ (sg cf l ext k).kd = 3 ∧ o = 0 then 9 else 3) k))
  (br_end : ∀ items k g o, endsB (sg cf l ext k).kd = true → items ≠ [] → P (.br items) k g o (.ok (joinN 4 items) k g))
  (br_byt : ∀ items k g o r, endsB (sg cf l ext k).kd = false → isByt ext (sg cf l ext k) (sg cf l ext (sg cf l ext k).nx).kd items = true → P (.br (items ++ [setN (mem (sg cf l ext k).tx)])) (sg cf l ext k).nx g o r → P (.br items) k g o r)
  (br_rep0 : ∀ items k g o, (sg cf l ext k).kd = 1 → endsP items = false → P (.br items) k g o (.bad 3 k))
  (br_rep1 : ∀ items k g o c p, (sg cf l ext k).kd = 1 → endsP items = true → (sg cf l ext k).er = some (c, p) → P (.br items) k g o (.bad c p))
  (br_rep2 : ∀ items k g o r, (sg cf l ext k).kd = 1 → endsP items = true → (sg cf l ext k).er = none → P (.br (repL items (sg cf l ext k).lo (sg cf l ext k).hi)) (sg cf l ext k).nx g o r → P (.br items) k g o r)
  (br_many : ∀ items k g o, (sg cf l ext k).kd = 2 → g = 9 → P (.br items) k g o (.bad 5 k))
  (br_gbad : ∀ items k g o c p, (sg cf l ext k).kd = 2 → g ≠ 9 → P (.re []) (sg cf l ext k).nx (g + 1) (o + 1) (.bad c p) → P (.br items) k g o (.bad c p))
  (br_gno : ∀ items k g o t k1 g1, (sg cf l ext k).kd = 2 → g ≠ 9 → P (.re []) (sg cf l ext k).nx (g + 1) (o + 1) (.ok t k1 g1) → (sg cf l ext k1).kd ≠ 3 → P (.br items) k g o (.bad 9 k1))
  (br_gyes : ∀ items k g o t k1 g1 r, (sg cf l ext k).kd = 2 → g ≠ 9 → P (.re []) (sg cf l ext k).nx (g + 1) (o + 1) (.ok t k1 g1) → (sg cf l ext k1).kd = 3 → P (.br (items ++ [grpN (g + 1 : Nat) t])) (sg cf l ext k1).nx g1 o r → P (.br items) k g o r)
  (br_err : ∀ items k g o c p, endsB (sg cf l ext k).kd = false → (sg cf l ext k).kd ≠ 1 → (sg cf l ext k).kd ≠ 2 → (sg cf l ext k).er = some (c, p) → P (.br items) k g o (.bad c p))
  (br_item : ∀ items k g o r, endsB (sg cf l ext k).kd = false → (sg cf l ext k).kd ≠ 1 → (sg cf l ext k).kd ≠ 2 → (sg cf l ext k).er = none → isByt ext (sg cf l ext k) (sg cf l ext (sg cf l ext k).nx).kd items = false → P (.br (items ++ [(sg cf l ext k).nd])) (sg cf l ext k).nx g o r → P (.br items) k g o r) :
  ∀ n md k g o r, rdR cf l ext n md k g o = some r → P md k g o r := by
 intro n
 induction n with
 | zero => intro md k g o r h; simp [rdR] at h
 | succ n ih =>
  intro md k g o r h
  cases md with
  | re bs =>
   rw [rdR_re] at h
   cases hb : rdR cf l ext n (.br []) k g o with
   | none => rw [hb] at h; cases h
   | some x =>
    rw [hb] at h
    have hp := ih _ _ _ _ _ hb
    cases x with
    | bad c p =>
     simp only [Option.some.injEq] at h
     subst h
     exact re_bad _ _ _ _ _ _ hp
    | ok b k1 g1 =>
     dsimp only at h
     by_cases h4 : (sg cf l ext k1).kd = 4
     ·rw [if_pos h4] at h
      exact re_on _ _ _ _ _ _ _ _ hp h4 (ih _ _ _ _ _ h)
     ·rw [if_neg h4] at h
      simp only [Option.some.injEq] at h
      subst h
      exact re_end _ _ _ _ _ _ _ hp h4
  | br items =>
   rw [rdR_br] at h
   by_cases he : endsB (sg cf l ext k).kd = true
   ·rw [if_pos he] at h
    by_cases hi : items = []
    ·rw [if_pos hi] at h
     simp only [Option.some.injEq] at h
     subst h
     subst hi
     exact br_nil _ _ _ he
    ·rw [if_neg hi] at h
     simp only [Option.some.injEq] at h
     subst h
     exact br_end _ _ _ _ he hi
   rw [if_neg he] at h
   have he' : endsB (sg cf l ext k).kd = false := by simpa using he
   by_cases hb : isByt ext (sg cf l ext k) (sg cf l ext (sg cf l ext k).nx).kd items = true
   ·rw [if_pos hb] at h
    exact br_byt _ _ _ _ _ he' hb (ih _ _ _ _ _ h)
   rw [if_neg hb] at h
   by_cases h1 : (sg cf l ext k).kd = 1
   ·rw [if_pos h1] at h
    by_cases hp : endsP items = false
    ·rw [if_pos hp] at h
     simp only [Option.some.injEq] at h
     subst h
     exact br_rep0 _ _ _ _ h1 hp
    ·rw [if_neg hp] at h
     have hp' : endsP items = true := by simpa using hp
     cases hx : (sg cf l ext k).er with
     | some cp =>
      obtain ⟨c, p⟩ := cp
      rw [hx] at h
      simp only [Option.some.injEq] at h
      subst h
      exact br_rep1 _ _ _ _ _ _ h1 hp' hx
     | none =>
      rw [hx] at h
      exact br_rep2 _ _ _ _ _ h1 hp' hx (ih _ _ _ _ _ h)
   rw [if_neg h1] at h
   by_cases h2 : (sg cf l ext k).kd = 2
   ·rw [if_pos h2] at h
    by_cases h9 : g = 9
    ·rw [if_pos h9] at h
     simp only [Option.some.injEq] at h
     subst h
     exact br_many _ _ _ _ h2 h9
    ·rw [if_neg h9] at h
     cases hr : rdR cf l ext n (.re []) (sg cf l ext k).nx (g + 1) (o + 1) with
     | none => rw [hr] at h; cases h
     | some x =>
      rw [hr] at h
      have hp := ih _ _ _ _ _ hr
      cases x with
      | bad c p =>
       simp only [Option.some.injEq] at h
       subst h
       exact br_gbad _ _ _ _ _ _ h2 h9 hp
      | ok t k1 g1 =>
       dsimp only at h
       by_cases h3 : (sg cf l ext k1).kd = 3
       ·rw [if_pos h3] at h
        exact br_gyes _ _ _ _ _ _ _ _ h2 h9 hp h3 (ih _ _ _ _ _ h)
       ·rw [if_neg h3] at h
        simp only [Option.some.injEq] at h
        subst h
        exact br_gno _ _ _ _ _ _ _ h2 h9 hp h3
   rw [if_neg h2] at h
   cases hx : (sg cf l ext k).er with
   | some cp =>
    obtain ⟨c, p⟩ := cp
    rw [hx] at h
    simp only [Option.some.injEq] at h
    subst h
    exact br_err _ _ _ _ _ _ he' h1 h2 hx
   | none =>
    rw [hx] at h
    exact br_item _ _ _ _ _ he' h1 h2 hx (by simpa using hb) (ih _ _ _ _ _ h)
theorem not_end {kd : Nat} (h : endsB kd = false) : kd ≠ 3 ∧ kd ≠ 4 ∧ kd ≠ 5 := by
 unfold endsB at h
 simp only [Bool.or_eq_false_iff, beq_eq_false_iff_ne] at h
 exact ⟨h.1.1, h.1.2, h.2⟩
theorem rdR_le (cf : ByteArray → (Nat → Bool) × Bool) (l : List Int) (ext : Bool) (n : Nat) (md : RM) (k g o : Nat) (t : Nd) (k1 g1 : Nat) (h : rdR cf l ext n md k g o = some (.ok t k1 g1)) (hk : k ≤ l.length) : k ≤ k1 ∧ k1 ≤ l.length := by
 have key := rdR_ind cf l ext (fun _ k _ _ r => k ≤ l.length → ∀ t k1 g1, r = .ok t k1 g1 → k ≤ k1 ∧ k1 ≤ l.length) ?_ ?_ ?_ ?_ ?_ ?_ ?_ ?_ ?_ ?_ ?_ ?_ ?_ ?_ ?_ n md k g o _ h
 ·exact key hk t k1 g1 rfl
 ·intro bs k g o c p _ _ t k1 g1 e; cases e
 ·intro bs k g o b k1 g1 r h1 _ h2 hk t k2 g2 e
  have a := h1 hk _ _ _ rfl
  have b := sg_nx cf l ext k1 a.2
  have c := h2 b.2 _ _ _ e
  omega
 ·intro bs k g o b k1 g1 h1 _ hk t k2 g2 e
  cases e
  exact h1 hk _ _ _ rfl
 ·intro k g o _ _ t k1 g1 e; cases e
 ·intro items k g o _ _ hk t k1 g1 e
  cases e
  exact ⟨Nat.le_refl _, hk⟩
 ·intro items k g o r _ _ h2 hk t k1 g1 e
  have b := sg_nx cf l ext k hk
  have c := h2 b.2 _ _ _ e
  omega
 ·intro items k g o _ _ _ t k1 g1 e; cases e
 ·intro items k g o c p _ _ _ _ t k1 g1 e; cases e
 ·intro items k g o r _ _ _ h2 hk t k1 g1 e
  have b := sg_nx cf l ext k hk
  have c := h2 b.2 _ _ _ e
  omega
 ·intro items k g o _ _ _ t k1 g1 e; cases e
 ·intro items k g o c p _ _ _ _ t k1 g1 e; cases e
 ·intro items k g o t k1 g1 _ _ _ _ _ t' k2 g2 e; cases e
 ·intro items k g o t k1 g1 r _ _ h1 _ h2 hk t' k2 g2 e
  have a := sg_nx cf l ext k hk
  have b := h1 a.2 _ _ _ rfl
  have c := sg_nx cf l ext k1 b.2
  have d := h2 c.2 _ _ _ e
  omega
 ·intro items k g o c p _ _ _ _ _ t k1 g1 e; cases e
 ·intro items k g o r _ _ _ _ _ h2 hk t k1 g1 e
  have b := sg_nx cf l ext k hk
  have c := h2 b.2 _ _ _ e
  omega
def fuelR (l : List Int) : Nat := 2 * l.length + 2
def ndW (kd mn mx : Int) (s n : Nat) : Nat :=
 if kd = 1 ∨ kd = 2 ∨ kd = 3 then 1
 else if kd = 5 then s + (n - 1)
 else if kd = 6 then (if mx < 0 then (mn.toNat + 1) * s + 1 else mx.toNat * s + (mx.toNat - mn.toNat))
 else s
def Fo.W : Fo → Nat
 | .nil => 0
 | .cons kd _ mn mx _ kids rest => ndW kd mn mx kids.W kids.len + rest.W
def Nd.W (n : Nd) : Nat := ndW n.kd n.mn n.mx n.kids.W n.kids.len
def LenB (B : GB) (s : Nat) : Prop := ∀ g nx, (B g nx).1.length ≤ g.length + s
theorem len_req {B : GB} {s : Nat} (h : LenB B s) : ∀ k, LenB (reqB B k) (k * s)
 | 0 => fun g nx => Nat.le_add_right _ _
 | k + 1 => fun g nx => by
  unfold reqB
  have h1 := h g nx
  rw [Nat.succ_mul]
  split
  ·show (B g nx).1.length ≤ _
   omega
  ·have := len_req h k (B g nx).1 (B g nx).2
   omega
theorem len_opt {B : GB} {s : Nat} (h : LenB B s) (nx : Nat) : ∀ k, LenB (optB B nx k) (k * (s + 1))
 | 0 => fun g _ => Nat.le_add_right _ _
 | k + 1 => fun g x => by
  unfold optB
  have h1 := h g x
  have := len_opt h nx k ((B g x).1 ++ [.fork (B g x).2 nx]) (B g x).1.length
  rw [List.length_append, List.length_singleton] at this
  rw [Nat.succ_mul]
  omega
theorem len_star {B : GB} {s : Nat} (h : LenB B s) : LenB (starB B) (s + 1) := fun g nx => by
 unfold starB
 have h1 := h (g ++ [.fork 0 nx]) g.length
 rw [List.length_append, List.length_singleton] at h1
 rw [List.length_set]
 omega
theorem len_times {B : GB} {s : Nat} (h : LenB B s) (mn mx : Int) (h0 : 0 ≤ mn) (hx : mx = -1 ∨ mn ≤ mx) : LenB (timesB B mn mx) (if mx < 0 then (mn.toNat + 1) * s + 1 else mx.toNat * s + (mx.toNat - mn.toNat)) := fun g nx => by
 unfold timesB
 rcases hx with hx | hx
 ·rw [optB_neg _ _ _ _ _ _ (by omega)]
  unfold bgnB
  rw [if_pos hx, if_pos (by omega)]
  have h1 := len_star h g nx
  have h2 := len_req h mn.toNat (starB B g nx).1 (starB B g nx).2
  rw [Nat.succ_mul]
  exact Nat.le_trans h2 (by omega)
 ·unfold bgnB
  rw [if_neg (by omega), if_neg (by omega)]
  have h1 := len_opt h nx (mx - mn).toNat g nx
  have h2 := len_req h mn.toNat (optB B nx (mx - mn).toNat g nx).1 (optB B nx (mx - mn).toNat g nx).2
  have e : mx.toNat = mn.toNat + (mx - mn).toNat := by omega
  rw [e, Nat.add_mul, Nat.add_sub_cancel_left]
  rw [Nat.mul_add, Nat.mul_one] at h1
  exact Nat.le_trans h2 (by omega)
theorem len_nd {kd : Int} {p : Nat → Bool} {mn mx : Int} {C A : GB} {s n : Nat} (hk : okN kd mn mx n) (hC : LenB C s) (hA : 0 < n → LenB A (s + (n - 1))) : LenB (ndB kd p mn mx C A) (ndW kd mn mx s n) := fun g nx => by
 unfold ndB ndW
 by_cases h1 : kd = 1
 ·rw [if_pos h1, if_pos (Or.inl h1)]; simp
 by_cases h2 : kd = 2
 ·rw [if_neg h1, if_pos h2, if_pos (Or.inr (Or.inl h2))]; simp
 by_cases h3 : kd = 3
 ·rw [if_neg h1, if_neg h2, if_pos h3, if_pos (Or.inr (Or.inr h3))]; simp
 have h0 : ¬ (kd = 1 ∨ kd = 2 ∨ kd = 3) := by simp [h1, h2, h3]
 rw [if_neg h1, if_neg h2, if_neg h3, if_neg h0]
 by_cases h5 : kd = 5
 ·simp only [if_pos h5]; exact hA (hk.1 h5) g nx
 by_cases h6 : kd = 6
 ·simp only [if_neg h5, if_pos h6]; exact len_times hC mn mx (hk.2 h6).1 (hk.2 h6).2.1 g nx
 ·simp only [if_neg h5, if_neg h6]; exact hC g nx
theorem Fo.lenB : ∀ f : Fo, f.Ok → LenB (f.B true) f.W ∧ (0 < f.len → LenB (f.B false) (f.W + (f.len - 1)))
 | .nil, _ => ⟨fun g nx => Nat.le_add_right _ _, fun h => by cases h⟩
 | .cons kd p mn mx gp kids rest, ⟨h1, h2, h3⟩ => by
  obtain ⟨k1, k2⟩ := Fo.lenB kids h2
  obtain ⟨r1, r2⟩ := Fo.lenB rest h3
  have hn : LenB (ndB kd p mn mx (kids.B true) (kids.B false)) (ndW kd mn mx kids.W kids.len) := len_nd h1 k1 k2
  refine ⟨fun g nx => ?_, fun _ g nx => ?_⟩
  ·unfold Fo.B
   simp only [if_true]
   show _ ≤ g.length + (ndW kd mn mx kids.W kids.len + rest.W)
   have h4 := r1 g nx
   have h5 := hn (rest.B true g nx).1 (rest.B true g nx).2
   omega
  ·show _ ≤ g.length + (ndW kd mn mx kids.W kids.len + rest.W + (rest.len + 1 - 1))
   unfold Fo.B
   by_cases hz : rest.len = 0
   ·simp only [Bool.false_eq_true, if_false, if_pos hz]
    have h5 := hn g nx
    omega
   ·simp only [Bool.false_eq_true, if_false, if_neg hz, List.length_append, List.length_singleton]
    have h4 := r2 (by omega) g nx
    have h5 := hn (rest.B false g nx).1 nx
    omega
theorem Nd.lenB (n : Nd) (h : n.Ok) : LenB n.B n.W := len_nd h.1 (Fo.lenB _ h.2).1 (Fo.lenB _ h.2).2
def Fo.nn : Fo → Nat
 | .nil => 0
 | .cons _ _ _ _ _ kids rest => 1 + kids.nn + rest.nn
def Nd.nn (n : Nd) : Nat := 1 + n.kids.nn
theorem Fo.len_nn : ∀ f : Fo, f.len ≤ f.nn
 | .nil => Nat.le_refl _
 | .cons _ _ _ _ _ kids rest => by
  have := Fo.len_nn rest
  show rest.len + 1 ≤ 1 + kids.nn + rest.nn
  omega
theorem nn_at : ∀ (l : List Nd) (k : Nat) (h : k < l.length), (l[k]).nn ≤ (fo l).nn
 | n :: r, 0, _ => by show 1 + n.kids.nn ≤ 1 + n.kids.nn + (fo r).nn; omega
 | n :: r, k + 1, h => by
  have := nn_at r k (by simpa using h)
  show (r[k]'(by simpa using h)).nn ≤ 1 + n.kids.nn + (fo r).nn
  omega
theorem ok_at : ∀ (l : List Nd), (fo l).Ok → ∀ (k : Nat) (h : k < l.length), (l[k]).Ok
 | n :: r, h, 0, _ => ⟨h.1, h.2.1⟩
 | n :: r, h, k + 1, hk => ok_at r h.2.2 k (by simpa using hk)
theorem w_at : ∀ (l : List Nd) (k : Nat) (h : k < l.length), (l[k]).W ≤ (fo l).W
 | n :: r, 0, _ => by show n.W ≤ n.W + (fo r).W; omega
 | n :: r, k + 1, h => by
  have := w_at r k (by simpa using h)
  show (r[k]'(by simpa using h)).W ≤ n.W + (fo r).W
  omega
def Fo.Lt : Fo → Prop
 | .nil => True
 | .cons kd _ _ mx _ kids rest => (¬ (kd = 1 ∨ kd = 2 ∨ kd = 3) → ¬ (kd = 6 ∧ mx = 0) → kids.Lt ∧ kids.W ≤ 4000 ∧ kids.len ≤ 1100) ∧ rest.Lt
def Nd.Lt (n : Nd) : Prop := ¬ (n.kd = 1 ∨ n.kd = 2 ∨ n.kd = 3) → ¬ (n.kd = 6 ∧ n.mx = 0) → n.kids.Lt ∧ n.kids.W ≤ 4000 ∧ n.kids.len ≤ 1100
theorem lt_at : ∀ (l : List Nd), (fo l).Lt → ∀ (k : Nat) (h : k < l.length), (l[k]).Lt
 | n :: r, h, 0, _ => h.1
 | n :: r, h, k + 1, hk => lt_at r h.2 k (by simpa using hk)
theorem ndW_kids {kd mn mx : Int} {s n : Nat} (h1 : ¬ (kd = 1 ∨ kd = 2 ∨ kd = 3)) (h2 : ¬ (kd = 6 ∧ mx = 0)) : s ≤ ndW kd mn mx s n := by
 unfold ndW
 rw [if_neg h1]
 split
 ·omega
 split
 ·split
  ·rw [Nat.succ_mul]; omega
  ·have h3 : 0 < mx.toNat := by omega
   have := Nat.le_mul_of_pos_left s h3
   omega
 ·exact Nat.le_refl _
theorem Fo.light : ∀ f : Fo, f.W ≤ 4000 → f.nn ≤ 1100 → f.Lt
 | .nil, _, _ => trivial
 | .cons kd p mn mx gp kids rest, hw, hn => by
  have hw' : ndW kd mn mx kids.W kids.len + rest.W ≤ 4000 := hw
  have hn' : 1 + kids.nn + rest.nn ≤ 1100 := hn
  refine ⟨fun h1 h2 => ?_, Fo.light rest (by omega) (by omega)⟩
  have h3 : kids.W ≤ ndW kd mn mx kids.W kids.len := ndW_kids h1 h2
  have h4 := Fo.len_nn kids
  exact ⟨Fo.light kids (by omega) (by omega), by omega, by omega⟩
theorem Nd.light (n : Nd) (hw : n.W ≤ 4000) (hn : n.nn ≤ 1100) : n.Lt := fun h1 h2 => by
 have h3 : n.kids.W ≤ n.W := ndW_kids h1 h2
 have h4 := Fo.len_nn n.kids
 unfold Nd.nn at hn
 exact ⟨Fo.light _ (by omega) (by omega), by omega, by omega⟩
def kidAt (l : List Nd) (x : Nat) : Nd := (l[min x (l.length - 1)]?).getD zeroN
theorem kidAt_lt {l : List Nd} {x : Nat} (h : x < l.length) : kidAt l x = l[x] := by
 unfold kidAt
 rw [Nat.min_eq_left (by omega), List.getElem?_eq_getElem h]
 rfl
def rowB (l : List Nd) (pre : List Nat) (r : List St × Nat) : List St × Nat := pre.foldl (fun r x => (kidAt l x).B r.1 r.2) r
theorem rowB_snoc (l : List Nd) (pre : List Nat) (x : Nat) (r : List St × Nat) : rowB l (pre ++ [x]) r = (kidAt l x).B (rowB l pre r).1 (rowB l pre r).2 := by unfold rowB; rw [List.foldl_append]; rfl
def downL (len : Nat) (k : Nat) : List Nat := (List.range k).map fun j => len - 1 - j
theorem downL_succ (len k : Nat) : downL len (k + 1) = downL len k ++ [len - 1 - k] := by simp [downL, List.range_succ]
theorem rowB_down (l : List Nd) (r : List St × Nat) : ∀ k, k ≤ l.length → rowB l (downL l.length k) r = (fo (l.drop (l.length - k))).B true r.1 r.2
 | 0, _ => by rw [Nat.sub_zero, List.drop_length]; rfl
 | k + 1, h => by
  rw [downL_succ, rowB_snoc, rowB_down l r k (by omega), kidAt_lt (by omega)]
  have e : l.drop (l.length - (k + 1)) = l[l.length - 1 - k]'(by omega) :: l.drop (l.length - k) := by
   rw [List.drop_eq_getElem_cons (by omega : l.length - (k + 1) < l.length)]
   congr 1
   ·congr 1; omega
   ·congr 1; omega
  rw [e]
  show _ = (Fo.cons _ _ _ _ _ _ (fo (l.drop (l.length - k)))).B true r.1 r.2
  conv => rhs; unfold Fo.B
  simp only [if_true]
  rfl
theorem rowB_all (l : List Nd) (r : List St × Nat) : rowB l (downL l.length l.length) r = (fo l).B true r.1 r.2 := by
 rw [rowB_down l r l.length (Nat.le_refl _), Nat.sub_self, List.drop_zero]
def altB (l : List Nd) (nx : Nat) (pre : List Nat) (r : List St × Nat) : List St × Nat := pre.foldl (fun r x => (((kidAt l x).B r.1 nx).1 ++ [.fork ((kidAt l x).B r.1 nx).2 r.2], ((kidAt l x).B r.1 nx).1.length)) r
theorem altB_snoc (l : List Nd) (nx : Nat) (pre : List Nat) (x : Nat) (r : List St × Nat) : altB l nx (pre ++ [x]) r = (((kidAt l x).B (altB l nx pre r).1 nx).1 ++ [.fork ((kidAt l x).B (altB l nx pre r).1 nx).2 (altB l nx pre r).2], ((kidAt l x).B (altB l nx pre r).1 nx).1.length) := by unfold altB; rw [List.foldl_append]; rfl
theorem altB_down (l : List Nd) (g : List St) (nx : Nat) (m : Nat) (hm : l.length = m + 1) : ∀ k, k ≤ m → altB l nx (downL m k) ((kidAt l m).B g nx) = (fo (l.drop (m - k))).B false g nx
 | 0, _ => by
  have e : l.drop m = [l[m]'(by omega)] := by
   rw [List.drop_eq_getElem_cons (by omega : m < l.length), List.drop_eq_nil_of_le (by omega)]
  rw [Nat.sub_zero, e, kidAt_lt (by omega)]
  show _ = (Fo.cons _ _ _ _ _ _ Fo.nil).B false g nx
  conv => rhs; unfold Fo.B
  simp only [Bool.false_eq_true, if_false, show Fo.nil.len = 0 from rfl, if_true]
  rfl
 | k + 1, h => by
  rw [downL_succ, altB_snoc, altB_down l g nx m hm k (by omega), kidAt_lt (by omega : m - 1 - k < l.length)]
  have e : l.drop (m - (k + 1)) = l[m - 1 - k]'(by omega) :: l.drop (m - k) := by
   rw [List.drop_eq_getElem_cons (by omega : m - (k + 1) < l.length)]
   congr 1
   ·congr 1; omega
   ·congr 1; omega
  have hz : ¬ (fo (l.drop (m - k))).len = 0 := by rw [fo_len, List.length_drop]; omega
  rw [e]
  show _ = (Fo.cons _ _ _ _ _ _ (fo (l.drop (m - k)))).B false g nx
  conv => rhs; unfold Fo.B
  simp only [Bool.false_eq_true, if_false]
  rw [if_neg hz]
  rfl
theorem altB_all (l : List Nd) (g : List St) (nx : Nat) (m : Nat) (hm : l.length = m + 1) : altB l nx (downL m m) ((kidAt l m).B g nx) = (fo l).B false g nx := by
 rw [altB_down l g nx m hm m (Nat.le_refl _), Nat.sub_self, List.drop_zero]
theorem kidAt_ok {l : List Nd} (h : (fo l).Ok) (hl : 0 < l.length) (x : Nat) : (kidAt l x).Ok := by
 unfold kidAt
 rw [List.getElem?_eq_getElem (by omega)]
 exact ok_at l h _ _
theorem kidAt_w {l : List Nd} (hl : 0 < l.length) (x : Nat) : (kidAt l x).W ≤ (fo l).W := by
 unfold kidAt
 rw [List.getElem?_eq_getElem (by omega)]
 exact w_at l _ _
theorem rowB_len {l : List Nd} (h : (fo l).Ok) (hl : 0 < l.length) (r : List St × Nat) : ∀ pre : List Nat, (rowB l pre.reverse r).1.length ≤ r.1.length + pre.length * (fo l).W
 | [] => Nat.le_add_right _ _
 | x :: pre => by
  rw [List.reverse_cons, rowB_snoc]
  have h1 := rowB_len h hl r pre
  have h2 := Nd.lenB _ (kidAt_ok h hl x) (rowB l pre.reverse r).1 (rowB l pre.reverse r).2
  have h3 := kidAt_w hl x
  rw [List.length_cons, Nat.succ_mul]
  omega
theorem altB_len {l : List Nd} (h : (fo l).Ok) (hl : 0 < l.length) (nx : Nat) (r : List St × Nat) : ∀ pre : List Nat, (altB l nx pre.reverse r).1.length ≤ r.1.length + pre.length * ((fo l).W + 1)
 | [] => Nat.le_add_right _ _
 | x :: pre => by
  rw [List.reverse_cons, altB_snoc]
  have h1 := altB_len h hl nx r pre
  have h2 := Nd.lenB _ (kidAt_ok h hl x) (altB l nx pre.reverse r).1 nx
  have h3 := kidAt_w hl x
  rw [List.length_cons, Nat.succ_mul, List.length_append, List.length_singleton]
  omega
theorem rowB_good {l : List Nd} (h : (fo l).Ok) (hl : 0 < l.length) (r : List St × Nat) (hr : r.2 < r.1.length) : ∀ pre : List Nat, (rowB l pre.reverse r).2 < (rowB l pre.reverse r).1.length
 | [] => hr
 | x :: pre => by
  rw [List.reverse_cons, rowB_snoc]
  exact (Nd.good [] (fun _ => True) _ (kidAt_ok h hl x) _ _ (rowB_good h hl r hr pre)).lt
theorem altB_good {l : List Nd} (h : (fo l).Ok) (hl : 0 < l.length) (nx : Nat) (r : List St × Nat) (hr : nx < r.1.length) : ∀ pre : List Nat, nx < (altB l nx pre.reverse r).1.length
 | [] => hr
 | x :: pre => by
  rw [List.reverse_cons, altB_snoc]
  have h1 := altB_good h hl nx r hr pre
  have h2 := pre_len (Nd.good [] (fun _ => True) _ (kidAt_ok h hl x) _ _ h1).pre
  rw [List.length_append, List.length_singleton]
  omega
theorem byt_ofR {l : List Int} (h : ∀ c ∈ l, 0 ≤ c ∧ c ≤ 255) : Byt l := fun i => by
 by_cases hi : i < l.length
 ·rw [List.getD_eq_getElem?_getD, List.getElem?_eq_getElem hi]
  exact h _ (List.getElem_mem hi)
 ·rw [List.getD_eq_getElem?_getD, List.getElem?_eq_none (by omega)]
  decide
theorem sgT_byt {l : List Int} (h : Byt l) (k : Nat) : Byt (sgT l k) := by
 unfold sgT
 refine byt_ofR fun c hc => ?_
 have a := h k
 have b := h (k + 1)
 split at hc
 ·split at hc
  ·simp only [List.mem_cons, List.not_mem_nil, or_false] at hc
   rcases hc with rfl | rfl
   ·omega
   ·exact b
  ·rw [List.mem_singleton.1 hc]; exact a
 ·cases hc
theorem atB_of {l : List Int} (h : Byt l) (k : Nat) : atB (ofBys l) k = l.getD k 0 := by unfold atB; rw [bys_ofBys h]
set_option maxHeartbeats 4000000 in
theorem nextText_any (cb k : Nat) (l : List Int) (hl : Byt l) (w : World) (h : Cur w cb (ofBys l) k) :
  Calls Tryz.prog 52 #[.pointer (some ⟨cb, 0, none⟩)] w fun x w' => x = .returned (.string (ofBys (sgT l k))) ∧ Mv cb (ofBys l) (k + (sgT l k).length) w w' := by
 have HN := Lib.hid (next_any cb k (ofBys l) w h)
 have hle := h.2.1
 rw [ofBys_size] at hle HN
 rw [atB_of hl] at HN
 clear h
 by_cases hk : k < l.length
 ·rw [decide_eq_true hk, if_pos hk] at HN
  have HN2 : Hid (∀ w', Cur w' cb (ofBys l) (k + 1) → Calls Tryz.prog 71 #[.pointer (some ⟨cb, 0, none⟩)] w' fun e w'' => e = .returned (.tuple #[.int .u8 (l.getD (k + 1) 0), .bool (decide (k + 1 < l.length))]) ∧ Mv cb (ofBys l) (if k + 1 < l.length then k + 1 + 1 else k + 1) w' w'') := Lib.hid fun w' h' => by
   have := next_any cb (k + 1) (ofBys l) w' h'
   rw [ofBys_size, atB_of hl] at this
   exact this
  have hb0 := hl k
  have hb1 := hl (k + 1)
  by_cases hk1 : k + 1 < l.length
  ·rw [decide_eq_true hk1, if_pos hk1] at HN2
   by_cases h92 : l.getD k 0 = 92
   ·have HT : Hid (sgT l k = [92, l.getD (k + 1) 0]) := Lib.hid (by unfold sgT; rw [if_pos hk, if_pos ⟨h92, hk1⟩])
    rw [HT.out]
    rw [h92] at HN
    generalize l.getD (k + 1) 0 = d at *
    have hcv : ∀ X : World, (convert 25 9 (.slice (some ⟨X.heap.size, 0, none⟩) 2 2)).run Tryz.prog (X.alloc (.cells #[.int .u8 92, .int .u8 d] 5)) = .ok (.string (ofBys [92, d])) (X.alloc (.cells #[.int .u8 92, .int .u8 d] 5)) := fun X => by
     refine conv_string (l := [92, d]) ⟨byt_ofR (fun z hz => ?_), by simp, Or.inr ⟨X.heap.size, 0, 2, rfl, Nat.le_refl _, by decide, fun i hi => ?_⟩⟩
     ·simp only [List.mem_cons, List.not_mem_nil, or_false] at hz
      rcases hz with rfl | rfl <;> omega
     ·have hb := alloc_last X (.cells #[.int .u8 92, .int .u8 d] 5)
      have hi' : i < 2 := hi
      rcases (by omega : i = 0 ∨ i = 1) with rfl | rfl <;> exact (cell_of_row _ _ _ _ _ _ hb).trans rfl
    clear hb0 hb1 hle hk hk1 h92
    go_enter Tryz.func52, Tryz.ntmps52
    go_wp2_with fail
    refine HN.out.mono ?_
    rintro x w1 ⟨rfl, hm1⟩
    have HM1 := Lib.hid hm1
    clear hm1
    go_wp2_with fail
    refine (HN2.out _ HM1.out.cur).mono ?_
    rintro x w2 ⟨rfl, hm2⟩
    have HM2 := Lib.hid (HM1.out.trans hm2)
    clear hm2
    go_wp2
    go_ret
    exact ⟨rfl, HM2.out.alloc _⟩
   ·have HT : Hid (sgT l k = [l.getD k 0]) := Lib.hid (by unfold sgT; rw [if_pos hk, if_neg (fun h => h92 h.1)])
    rw [HT.out]
    have HBK : Hid (∀ w', Cur w' cb (ofBys l) (k + 2) → Calls Tryz.prog 72 #[.pointer (some ⟨cb, 0, none⟩), .int .i64 1] w' fun e w'' => e = .returned (.bool true) ∧ Mv cb (ofBys l) (k + 2 - 1) w' w'') := Lib.hid fun w' h' => back_yes cb (k + 2) 1 _ w' h' (by omega)
    have e92 : (l.getD k 0 == 92) = false := beq_eq_false_iff_ne.2 h92
    generalize l.getD k 0 = c at *
    have hcv : ∀ X : World, (convert 25 9 (.slice (some ⟨X.heap.size, 0, none⟩) 1 1)).run Tryz.prog (X.alloc (.cells #[.int .u8 c] 5)) = .ok (.string (ofBys [c])) (X.alloc (.cells #[.int .u8 c] 5)) := fun X => by
     refine conv_string (l := [c]) ⟨byt_ofR (fun z hz => by rw [List.mem_singleton.1 hz]; omega), by simp, Or.inr ⟨X.heap.size, 0, 1, rfl, Nat.le_refl _, by decide, fun i hi => ?_⟩⟩
     have hb := alloc_last X (.cells #[.int .u8 c] 5)
     have hi' : i < 1 := hi
     obtain rfl : i = 0 := by omega
     exact (cell_of_row _ _ _ _ _ _ hb).trans rfl
    clear hb0 hb1 hle hk hk1 h92
    go_enter Tryz.func52, Tryz.ntmps52
    go_wp2_with fail
    refine HN.out.mono ?_
    rintro x w1 ⟨rfl, hm1⟩
    have HM1 := Lib.hid hm1
    clear hm1
    go_wp2_with fail
    refine (HN2.out _ HM1.out.cur).mono ?_
    rintro x w2 ⟨rfl, hm2⟩
    have HM2 := Lib.hid (HM1.out.trans hm2)
    clear hm2
    go_wp2_with fail
    refine (HBK.out _ HM2.out.cur).mono ?_
    rintro x w3 ⟨rfl, hm3⟩
    have HM3 := Lib.hid (HM2.out.trans hm3)
    clear hm3
    go_wp2
    go_ret
    exact ⟨rfl, HM3.out.alloc _⟩
  ·rw [decide_eq_false hk1, if_neg hk1] at HN2
   have HT : Hid (sgT l k = [l.getD k 0]) := Lib.hid (by unfold sgT; rw [if_pos hk, if_neg (fun h => hk1 h.2)])
   rw [HT.out]
   generalize l.getD k 0 = c at *
   have hcv : ∀ X : World, (convert 25 9 (.slice (some ⟨X.heap.size, 0, none⟩) 1 1)).run Tryz.prog (X.alloc (.cells #[.int .u8 c] 5)) = .ok (.string (ofBys [c])) (X.alloc (.cells #[.int .u8 c] 5)) := fun X => by
    refine conv_string (l := [c]) ⟨byt_ofR (fun z hz => by rw [List.mem_singleton.1 hz]; omega), by simp, Or.inr ⟨X.heap.size, 0, 1, rfl, Nat.le_refl _, by decide, fun i hi => ?_⟩⟩
    have hb := alloc_last X (.cells #[.int .u8 c] 5)
    have hi' : i < 1 := hi
    obtain rfl : i = 0 := by omega
    exact (cell_of_row _ _ _ _ _ _ hb).trans rfl
   clear hb0 hb1 hle hk hk1
   go_enter Tryz.func52, Tryz.ntmps52
   go_wp2_with fail
   refine HN.out.mono ?_
   rintro x w1 ⟨rfl, hm1⟩
   have HM1 := Lib.hid hm1
   clear hm1
   go_wp2_with fail
   refine (HN2.out _ HM1.out.cur).mono ?_
   rintro x w2 ⟨rfl, hm2⟩
   have HM2 := Lib.hid (HM1.out.trans hm2)
   clear hm2
   go_wp2
   go_ret
   exact ⟨rfl, HM2.out.alloc _⟩
 ·rw [decide_eq_false hk, if_neg hk] at HN
  have HT : Hid (sgT l k = []) := Lib.hid (sgT_end l k hk)
  rw [HT.out]
  clear hk hle
  go_enter Tryz.func52, Tryz.ntmps52
  go_wp2_with fail
  refine HN.out.mono ?_
  rintro x w1 ⟨rfl, hm1⟩
  have HM1 := Lib.hid hm1
  clear hm1
  go_wp2
  go_ret
  exact ⟨rfl, HM1.out⟩
def roleS (r : Int) : List Int := if r = 0 then [] else if r = 256 then [101, 110, 100] else [r]
set_option maxHeartbeats 4000000 in
theorem mayQ_any (c : Int) (ext : Bool) (w : World) : Calls Tryz.prog 11 #[.int .u8 c, .bool ext] w fun x w' => x = .returned (.bool (mayQ c ext)) ∧ w' = w := by
 by_cases h1 : c = 40 ∨ c = 41 ∨ c = 43 ∨ c = 63 ∨ c = 123 ∨ c = 125 ∨ c = 124
 ·have e : mayQ c ext = ext := by unfold mayQ; rw [if_pos h1]
  rw [e]
  clear e
  rcases h1 with rfl | rfl | rfl | rfl | rfl | rfl | rfl
  all_goals
   cases ext
   all_goals
    go_enter Tryz.func11, Tryz.ntmps11
    go_wp2
    go_ret
    exact ⟨rfl, rfl⟩
 ·by_cases h2 : c = 46 ∨ c = 91 ∨ c = 93 ∨ c = 42 ∨ c = 94 ∨ c = 36 ∨ c = 47 ∨ c = 92
  ·have e : mayQ c ext = true := by unfold mayQ; rw [if_neg h1]; exact decide_eq_true h2
   rw [e]
   clear e h1
   rcases h2 with rfl | rfl | rfl | rfl | rfl | rfl | rfl | rfl
   all_goals
    go_enter Tryz.func11, Tryz.ntmps11
    go_wp2
    go_ret
    exact ⟨rfl, rfl⟩
  ·have e : mayQ c ext = false := by unfold mayQ; rw [if_neg h1]; exact decide_eq_false h2
   rw [e]
   clear e
   simp only [not_or] at h1 h2
   obtain ⟨a1, a2, a3, a4, a5, a6, a7⟩ := h1
   obtain ⟨b1, b2, b3, b4, b5, b6, b7, b8⟩ := h2
   have ea1 := beq_eq_false_iff_ne.2 a1
   have ea2 := beq_eq_false_iff_ne.2 a2
   have ea3 := beq_eq_false_iff_ne.2 a3
   have ea4 := beq_eq_false_iff_ne.2 a4
   have ea5 := beq_eq_false_iff_ne.2 a5
   have ea6 := beq_eq_false_iff_ne.2 a6
   have ea7 := beq_eq_false_iff_ne.2 a7
   have eb1 := beq_eq_false_iff_ne.2 b1
   have eb2 := beq_eq_false_iff_ne.2 b2
   have eb3 := beq_eq_false_iff_ne.2 b3
   have eb4 := beq_eq_false_iff_ne.2 b4
   have eb5 := beq_eq_false_iff_ne.2 b5
   have eb6 := beq_eq_false_iff_ne.2 b6
   have eb7 := beq_eq_false_iff_ne.2 b7
   have eb8 := beq_eq_false_iff_ne.2 b8
   clear a1 a2 a3 a4 a5 a6 a7 b1 b2 b3 b4 b5 b6 b7 b8
   go_enter Tryz.func11, Tryz.ntmps11
   go_wp2
   go_ret
   exact ⟨rfl, rfl⟩
def ErrR (w : World) (e : Nat → Addr) (c : Nat) (p : Int) (v : Value) : Prop := ∃ k, v = .iface 86 (.pointer (some ⟨k, 0, none⟩)) ∧ w.heap[k]? = some (.cells #[bot (e c), .int .i64 p] 90)
def langR (ext : Bool) : Int := if ext then 4 else 3
def ErrQ (w : World) (e : Nat → Addr) (ext : Bool) (c : Nat) (p : Int) (v : Value) : Prop := ErrR w e c p v ∨ ErrS w 0 e (langR ext) c p v
theorem ErrQ.kept {w w' : World} {e : Nat → Addr} {ext : Bool} {c : Nat} {p : Int} {v : Value} (h : ErrQ w e ext c p v) (hz : w.heap.size ≤ w'.heap.size)
  (hk : ∀ (k : Nat) (cs : Array Value) (T : TypeId), (T = 90 ∨ T = 97 ∨ T = 100) → w.heap[k]? = some (.cells cs T (0, 0)) → w'.heap[k]? = w.heap[k]?) : ErrQ w' e ext c p v := by
 rcases h with ⟨k, rfl, h1⟩ | ⟨k, j, rfl, k1, k2, j1, j2, h1, h2⟩
 ·exact Or.inl ⟨k, rfl, (hk k _ _ (Or.inl rfl) h1).trans h1⟩
 ·exact Or.inr ⟨k, j, rfl, k1, Nat.lt_of_lt_of_le k2 hz, j1, Nat.lt_of_lt_of_le j2 hz, (hk k _ _ (Or.inr (Or.inl rfl)) h1).trans h1, (hk j _ _ (Or.inr (Or.inr rfl)) h2).trans h2⟩
theorem ErrQ.below {w w' : World} {e : Nat → Addr} {ext : Bool} {c : Nat} {p : Int} {v : Value} (h : ErrQ w e ext c p v) (hb : Below w.heap.size w w') : ErrQ w' e ext c p v :=
 h.kept hb.size fun k _ _ _ hc => hb.block k (lt_blkB hc)
set_option maxHeartbeats 4000000 in
theorem reOf_any (e : Nat → Addr) (B : Nat) (w : World) (hs : Es w B e) (k : Nat) (h : k = 2 ∨ k = 3 ∨ k = 5 ∨ k = 7 ∨ k = 9 ∨ k = 10) :
  Calls Tryz.prog 20 #[.int .i64 k] w fun x w' => x = .returned (bot (e k)) ∧ w' = w := by
 have hv := hs.var k (by omega) (by omega)
 have HS := Lib.hid hs
 clear hs
 unfold bot
 rcases h with rfl | rfl | rfl | rfl | rfl | rfl
 all_goals
  try simp only [Nat.reduceSub] at hv
  go_enter Tryz.func20, Tryz.ntmps20
  go_wp2
  go_ret
  exact ⟨rfl, rfl⟩
set_option maxHeartbeats 4000000 in
theorem refz_any (e : Nat → Addr) (B : Nat) (w : World) (hs : Es w B e) (c : Nat) (p : Int) (h : c = 2 ∨ c = 3 ∨ c = 5 ∨ c = 7 ∨ c = 9 ∨ c = 10) :
  Calls Tryz.prog 16 #[.int .i64 c, .int .i64 p] w fun x w' => x = .returned (.iface 86 (.pointer (some ⟨w.heap.size, 0, none⟩))) ∧ w' = w.alloc (.cells #[bot (e c), .int .i64 p] 90) := by
 have HO := Lib.hid (reOf_any e B w hs c h)
 unfold bot at *
 clear h hs
 go_enter Tryz.func16, Tryz.ntmps16
 go_wp2_with (go_at_call 20; refine HO.out.mono ?_; rintro x w' ⟨rfl, rfl⟩)
 go_ret
 exact ⟨rfl, rfl⟩
theorem refz_err (e : Nat → Addr) (ext : Bool) (B : Nat) (w : World) (hs : Es w B e) (c : Nat) (p : Int) (h : c = 2 ∨ c = 3 ∨ c = 5 ∨ c = 7 ∨ c = 9 ∨ c = 10) :
  Calls Tryz.prog 16 #[.int .i64 c, .int .i64 p] w fun x w' => ∃ k, x = .returned (.iface 86 (.pointer (some ⟨k, 0, none⟩))) ∧ ErrQ w' e ext c p (.iface 86 (.pointer (some ⟨k, 0, none⟩))) ∧ Below w.heap.size w w' := by
 refine (refz_any e B w hs c p h).mono ?_
 rintro x w' ⟨rfl, rfl⟩
 exact ⟨_, rfl, Or.inl ⟨_, rfl, alloc_last w _⟩, (Below.refl _ _).alloc (Nat.le_refl _) _⟩
theorem langOf_any (ext : Bool) (w : World) : Calls Tryz.prog 33 #[.bool ext] w fun x w' => x = .returned (.int .i64 (langR ext)) ∧ w' = w := by
 cases ext
 all_goals
  go_enter Tryz.func33, Tryz.ntmps33
  go_wp2
  go_ret
  exact ⟨rfl, rfl⟩
def Ety (w : World) : Prop := w.cell? ⟨21, 0, none⟩ = some (.iface 145 (.agg #[.pointer (some ⟨22, 37, none⟩)]))
theorem Ety.below {w w' : World} (h : Ety w) (hb : Below w.heap.size w w') : Ety w' := ety_keep h hb
set_option maxHeartbeats 4000000 in
theorem told_s (e : Nat → Addr) (ext : Bool) (c : Nat) (p : Int) (v : Value) (w : World) (ht : Ety w) (h : ErrS w 0 e (langR ext) c p v) :
  Calls Tryz.prog 15 #[v, .bool ext] w fun x w' => x = .returned v ∧ Below w.heap.size w w' := by
 obtain ⟨kk, rfl⟩ := h.iface
 have hb1 : Below w.heap.size w (w.alloc (.cells #[.pointer none] 86)) := (Below.refl _ _).alloc (Nat.le_refl _) _
 have HA := Lib.hid (eas_missR _ _ (e c) ⟨w.heap.size, 0, none⟩ (.pointer none) w (w.alloc (.cells #[.pointer none] 86)) hb1 (ht.below hb1) h.chn (by simp) (by simp))
 have HB := Lib.hid hb1
 clear h ht hb1
 go_enter Tryz.func15, Tryz.ntmps15
 go_wp2_with fail
 refine HA.out.mono ?_
 rintro x w1 ⟨rfl, hb⟩
 have HB1 := Lib.hid (Below.step HB.out hb)
 clear hb
 go_wp2
 go_ret
 exact ⟨rfl, HB1.out⟩
set_option maxHeartbeats 8000000 in
theorem told_r (e : Nat → Addr) (ext : Bool) (c : Nat) (p : Int) (v : Value) (w : World) (ht : Ety w) (h : ErrR w e c p v) :
  Calls Tryz.prog 15 #[v, .bool ext] w fun x w' => ∃ v', x = .returned v' ∧ ErrS w' w.heap.size e (langR ext) c p v' ∧ Below w.heap.size w w' := by
 obtain ⟨kk, rfl, hk⟩ := h
 have hkl := lt_blkB hk
 have hb1 : Below w.heap.size w (w.alloc (.cells #[.pointer none] 86)) := (Below.refl _ _).alloc (Nat.le_refl _) _
 have HA := Lib.hid (eas_hitR kk ⟨w.heap.size, 0, none⟩ (.pointer none) (w.alloc (.cells #[.pointer none] 86)) (ht.below hb1) (by simp) (by simp))
 have HB := Lib.hid hb1
 have HK := Lib.hid hk
 clear hk ht hb1
 go_enter Tryz.func15, Tryz.ntmps15
 go_wp2_with fail
 refine HA.out.mono ?_
 rintro x w1 ⟨rfl, w2, hb, rfl⟩
 have HB2 := Lib.hid (Below.step HB.out hb)
 have hob : w2.heap[w.heap.size]? = some (.cells #[.pointer none] 86) := (hb.block w.heap.size (by simp)).trans (alloc_last w _)
 have hkb : w2.heap[kk]? = some (.cells #[bot (e c), .int .i64 p] 90) := (HB2.out.block kk hkl).trans HK.out
 have hne : kk ≠ w.heap.size := Nat.ne_of_lt hkl
 obtain ⟨W, hW⟩ : ∃ W, W = w2.setCell ⟨w.heap.size, 0, none⟩ (.pointer (some ⟨kk, 0, none⟩)) := ⟨_, rfl⟩
 rw [← hW]
 have HO : Hid (W.cell? ⟨w.heap.size, 0, none⟩ = some (.pointer (some ⟨kk, 0, none⟩))) := Lib.hid (by
  rw [hW]
  show (match (w2.heap.modify w.heap.size _)[w.heap.size]? with | some (.cells cs _ _) => cs[0]? | _ => none) = _
  rw [Array.getElem?_modify, if_pos rfl, hob]
  rfl)
 have HKW : Hid (W.heap[kk]? = some (.cells #[bot (e c), .int .i64 p] 90)) := Lib.hid (by rw [hW, Below.heap_setCell _ _ _ _ hne]; exact hkb)
 have HBW : Hid (Below w.heap.size w W) := Lib.hid (by rw [hW]; exact HB2.out.setCell (Nat.le_refl _) _)
 clear hW hb hob hkb
 go_wp2_with fail
 refine Reg.wp_region_vals (fun X => Below w.heap.size w X ∧ X.cell? ⟨w.heap.size, 0, none⟩ = some (.pointer (some ⟨kk, 0, none⟩)) ∧ X.heap[kk]? = some (.cells #[bot (e c), .int .i64 p] 90)) (fun j => ([some (.pointer (some ⟨kk, 0, none⟩)), some (.pointer (some ⟨kk, 0, none⟩)), some (.pointer (some ⟨kk, 0, none⟩)), some (bot (e c)), some (.pointer (some ⟨kk, 0, none⟩)), some (.pointer (some ⟨kk, 0, none⟩)), some (.pointer (some ⟨kk, 1, none⟩)), some (.int .i64 p), none, some (.bool ext), some (.int .i64 (langR ext)), none, none] : List (Option Value)).getD j none) (fun j x X => if j = 8 then ∃ b, x = .iface 98 (.pointer (some ⟨b, 0, none⟩)) ∧ w.heap.size ≤ b ∧ b < X.heap.size ∧ X.heap[b]? = some (.cells #[bot (e c), .int .i64 p] 100) else ErrS X w.heap.size e (langR ext) c p x) (by kernel_rfl) (by kernel_rfl) (by kernel_rfl) (by kernel_rfl) ?rs0 ?rsE ?rsZ
 case rs0 => exact ⟨HBW.out.drew, HO.out, HKW.out⟩
 case rsE =>
  refine Reg.EachV.plain rfl (fun T X hS hk K hK => ?_) ?_
  ·skip
   have g5 := hk.old 5 (by kernel_rfl) rfl
   have y := hS.2.1
   have hK := hK _ X hS (Reg.Is.of_val rfl) (fun _ _ _ h => h)
   clear hk
   go_simp
   exact hK
  refine Reg.EachV.plain rfl (fun T X hS hk K hK => ?_) ?_
  ·skip
   have g11 := hk.val 0 11 (by kernel_rfl) (by kernel_rfl) rfl
   have hkz := lt_blkB hS.2.2
   have hK := hK _ X hS (Reg.Is.of_val rfl) (fun _ _ _ h => h)
   clear hk
   go_simp
   exact hK
  refine Reg.EachV.plain rfl (fun T X hS hk K hK => ?_) ?_
  ·skip
   have g12 := hk.val 1 12 (by kernel_rfl) (by kernel_rfl) rfl
   have hkz := lt_blkB hS.2.2
   have hK := hK _ X hS (Reg.Is.of_val rfl) (fun _ _ _ h => h)
   clear hk
   go_simp
   exact hK
  refine Reg.EachV.plain rfl (fun T X hS hk K hK => ?_) ?_
  ·skip
   have g13 := hk.val 2 13 (by kernel_rfl) (by kernel_rfl) rfl
   have y := Lib.cell_of_heap hS.2.2 0
   have hkz := lt_blkB hS.2.2
   rw [show (#[bot (e c), Value.int .i64 p] : Array Value)[0]? = some (bot (e c)) from rfl] at y
   have hK := hK _ X hS (Reg.Is.of_val rfl) (fun _ _ _ h => h)
   clear hk
   go_simp
   exact hK
  refine Reg.EachV.plain rfl (fun T X hS hk K hK => ?_) ?_
  ·skip
   have g5 := hk.old 5 (by kernel_rfl) rfl
   have y := hS.2.1
   have hK := hK _ X hS (Reg.Is.of_val rfl) (fun _ _ _ h => h)
   clear hk
   go_simp
   exact hK
  refine Reg.EachV.plain rfl (fun T X hS hk K hK => ?_) ?_
  ·skip
   have g15 := hk.val 4 15 (by kernel_rfl) (by kernel_rfl) rfl
   have hkz := lt_blkB hS.2.2
   have hK := hK _ X hS (Reg.Is.of_val rfl) (fun _ _ _ h => h)
   clear hk
   go_simp
   exact hK
  refine Reg.EachV.plain rfl (fun T X hS hk K hK => ?_) ?_
  ·skip
   have g16 := hk.val 5 16 (by kernel_rfl) (by kernel_rfl) rfl
   have hkz := lt_blkB hS.2.2
   have hK := hK _ X hS (Reg.Is.of_val rfl) (fun _ _ _ h => h)
   clear hk
   go_simp
   exact hK
  refine Reg.EachV.plain rfl (fun T X hS hk K hK => ?_) ?_
  ·skip
   have g17 := hk.val 6 17 (by kernel_rfl) (by kernel_rfl) rfl
   have y := Lib.cell_of_heap hS.2.2 1
   have hkz := lt_blkB hS.2.2
   rw [show (#[bot (e c), Value.int .i64 p] : Array Value)[1]? = some (Value.int .i64 p) from rfl] at y
   have hK := hK _ X hS (Reg.Is.of_val rfl) (fun _ _ _ h => h)
   clear hk
   go_simp
   exact hK
  refine Reg.EachV.plain rfl (fun T X hS hk K hK => ?_) ?_
  ·skip
   have g14 := hk.val 3 14 (by kernel_rfl) (by kernel_rfl) rfl
   have g18 := hk.val 7 18 (by kernel_rfl) (by kernel_rfl) rfl
   unfold bot at g14
   clear hk
   go_simp
   refine (esWrap_At _ _ _ _).mono ?_
   rintro x w1 ⟨rfl, rfl⟩
   have hb : Below X.heap.size X (X.alloc (.cells #[bot (e c), .int .i64 p] 100)) := (Below.refl _ _).alloc (Nat.le_refl _) _
   refine hK _ _ ⟨below_thn hS.1 (Nat.le_refl _) hb, (hb.cell (World.block_lt_of_cell? _ _ hS.2.1)).trans hS.2.1, (hb.block kk (lt_blkB hS.2.2)).trans hS.2.2⟩ (Reg.Is.of_prop rfl ?_) (by intro j x hj hx; by_cases h3 : j = 8; (rw [if_pos h3] at hx ⊢; obtain ⟨b, rfl, b1, b2, b3⟩ := hx; exact ⟨b, rfl, b1, Nat.lt_of_lt_of_le b2 hb.size, (hb.block b b2).trans b3⟩); (rw [if_neg h3] at hx ⊢; exact ErrS.below hx hb))
   try dsimp only
   rw [if_pos rfl]
   exact ⟨_, rfl, hS.1.size, by simp, alloc_last _ _⟩
  refine Reg.EachV.plain rfl (fun T X hS hk K hK => ?_) ?_
  ·skip
   have g1 := hk.old 1 (by kernel_rfl) rfl
   have hK := hK _ X hS (Reg.Is.of_val rfl) (fun _ _ _ h => h)
   clear hk
   go_simp
   exact hK
  refine Reg.EachV.plain rfl (fun T X hS hk K hK => ?_) ?_
  ·skip
   have g20 := hk.val 9 20 (by kernel_rfl) (by kernel_rfl) rfl
   clear hk
   go_simp
   refine (langOf_any ext _).mono ?_
   rintro x w1 ⟨rfl, rfl⟩
   exact hK _ _ (hS) (Reg.Is.of_val rfl) (fun _ _ _ h => h)
  refine Reg.EachV.plain rfl (fun T X hS hk K hK => ?_) ?_
  ·skip
   obtain ⟨x19, g19, r19⟩ := hk.prop 8 19 (by kernel_rfl) (by kernel_rfl) rfl
   have g21 := hk.val 10 21 (by kernel_rfl) (by kernel_rfl) rfl
   try dsimp only at r19
   rw [if_pos rfl] at r19
   obtain ⟨b, rfl, b1, b2, b3⟩ := r19
   clear hk
   go_simp
   refine (esWrap_In _ _ _ _).mono ?_
   rintro x w1 ⟨rfl, rfl⟩
   have hb : Below X.heap.size X (X.alloc (.cells #[.iface 98 (.pointer (some ⟨b, 0, none⟩)), .int .i64 (langR ext)] 97)) := (Below.refl _ _).alloc (Nat.le_refl _) _
   refine hK _ _ ⟨below_thn hS.1 (Nat.le_refl _) hb, (hb.cell (World.block_lt_of_cell? _ _ hS.2.1)).trans hS.2.1, (hb.block kk (lt_blkB hS.2.2)).trans hS.2.2⟩ (Reg.Is.of_prop rfl ?_) (by intro j x hj hx; by_cases h3 : j = 8; (rw [if_pos h3] at hx ⊢; obtain ⟨b, rfl, b1, b2, b3⟩ := hx; exact ⟨b, rfl, b1, Nat.lt_of_lt_of_le b2 hb.size, (hb.block b b2).trans b3⟩); (rw [if_neg h3] at hx ⊢; exact ErrS.below hx hb))
   try dsimp only
   rw [if_neg (by decide)]
   exact ⟨X.heap.size, b, rfl, hS.1.size, by simp, b1, by simp; omega, alloc_last _ _, (hb.block b b2).trans b3⟩
  refine Reg.EachV.plain rfl (fun T X hS hk K hK => ?_) ?_
  ·skip
   obtain ⟨x22, g22, r22⟩ := hk.prop 11 22 (by kernel_rfl) (by kernel_rfl) rfl
   clear hk
   have hK := hK x22 X hS (Reg.Is.of_prop rfl r22) (fun _ _ _ h => h)
   go_simp
   exact hK
  exact Reg.EachV.nil
 case rsZ =>
  intro u w1 hS hI
  have e0 : u 0 = .pointer (some ⟨kk, 0, none⟩) := (hI 0 (by decide)).val rfl
  have e1 : u 1 = .pointer (some ⟨kk, 0, none⟩) := (hI 1 (by decide)).val rfl
  have e2 : u 2 = .pointer (some ⟨kk, 0, none⟩) := (hI 2 (by decide)).val rfl
  have e3 : u 3 = bot (e c) := (hI 3 (by decide)).val rfl
  have e4 : u 4 = .pointer (some ⟨kk, 0, none⟩) := (hI 4 (by decide)).val rfl
  have e5 : u 5 = .pointer (some ⟨kk, 0, none⟩) := (hI 5 (by decide)).val rfl
  have e6 : u 6 = .pointer (some ⟨kk, 1, none⟩) := (hI 6 (by decide)).val rfl
  have e7 : u 7 = .int .i64 p := (hI 7 (by decide)).val rfl
  have e8 := (hI 8 (by decide)).prop rfl
  have e9 : u 9 = .bool ext := (hI 9 (by decide)).val rfl
  have e10 : u 10 = .int .i64 (langR ext) := (hI 10 (by decide)).val rfl
  have e11 := (hI 11 (by decide)).prop rfl
  have e12 := (hI 12 (by decide)).prop rfl
  clear hI
  simp only [Reg.putAll, Act.put, List.setIfInBounds_toArray, List.set_cons_succ, List.set_cons_zero, Nat.zero_add, Nat.reduceAdd, e0, e1, e2, e3, e4, e5, e6, e7, e9, e10]
  clear e0 e1 e2 e3 e4 e5 e6 e7 e9 e10
  try dsimp only at e12
  rw [if_neg (by decide)] at e12
  generalize u 12 = x12 at *
  have HBE := Lib.hid hS.1
  have HE := Lib.hid e12
  clear hS e12 e8 e11
  go_wp2
  go_ret
  exact ⟨_, rfl, HE.out, HBE.out⟩
theorem told_any (e : Nat → Addr) (ext : Bool) (c : Nat) (p : Int) (v : Value) (w : World) (ht : Ety w) (h : ErrQ w e ext c p v) :
  Calls Tryz.prog 15 #[v, .bool ext] w fun x w' => ∃ k, x = .returned (.iface 95 (.pointer (some ⟨k, 0, none⟩))) ∧ ErrS w' 0 e (langR ext) c p (.iface 95 (.pointer (some ⟨k, 0, none⟩))) ∧ Below w.heap.size w w' := by
 rcases h with h | h
 ·refine (told_r e ext c p v w ht h).mono ?_
  rintro x w' ⟨v', rfl, h1, h2⟩
  obtain ⟨k, rfl⟩ := h1.iface
  exact ⟨k, rfl, h1.lower (Nat.zero_le _), h2⟩
 ·obtain ⟨k, rfl⟩ := h.iface
  refine (told_s e ext c p _ w ht h).mono ?_
  rintro x w' ⟨rfl, h2⟩
  exact ⟨k, rfl, h.below h2, h2⟩
theorem sg_nd (cf : ByteArray → (Nat → Bool) × Bool) (l : List Int) (ext : Bool) (k : Nat) (h0 : endsB (sg cf l ext k).kd = false) (h1 : (sg cf l ext k).kd ≠ 1) (h2 : (sg cf l ext k).kd ≠ 2) (he : (sg cf l ext k).er = none) : 1 ≤ (sg cf l ext k).nd.kd ∧ (sg cf l ext k).nd.kids = .nil := by
 revert h0 h1 h2 he
 apply sg_cases (fun s => endsB s.kd = false → s.kd ≠ 1 → s.kd ≠ 2 → s.er = none → 1 ≤ s.nd.kd ∧ s.nd.kids = .nil) <;> intros <;> simp_all [endsB, setN, kindN]
def kdL (l : List Nd) : Prop := ∀ x ∈ l, 1 ≤ x.kd
theorem kd_join {kd : Int} {l : List Nd} (hk : 1 ≤ kd) (h : kdL l) : 1 ≤ (joinN kd l).kd := by
 unfold joinN
 split
 ·exact h _ (by simp)
 ·exact hk
theorem kd_snoc {l : List Nd} {x : Nd} (h : kdL l) (hx : 1 ≤ x.kd) : kdL (l ++ [x]) := fun y hy => by
 rcases List.mem_append.1 hy with h1 | h1
 ·exact h y h1
 ·rw [List.mem_singleton.1 h1]; exact hx
theorem kd_rep {l : List Nd} {m n : Int} (h : kdL l) : kdL (repL l m n) := by
 unfold repL
 split
 ·exact h
 ·refine kd_snoc (fun y hy => h y (List.dropLast_subset _ hy)) (by show (1 : Int) ≤ 6; decide)
def RM.list : RM → List Nd
 | .re bs => bs
 | .br items => items
theorem rdR_kd (cf : ByteArray → (Nat → Bool) × Bool) (l : List Int) (ext : Bool) (n : Nat) (md : RM) (k g o : Nat) (t : Nd) (k1 g1 : Nat) (h : rdR cf l ext n md k g o = some (.ok t k1 g1)) (hm : kdL md.list) (hg : g ≤ 9) : 1 ≤ t.kd ∧ g1 ≤ 9 := by
 have key := rdR_ind cf l ext (fun md _ g _ r => kdL md.list → g ≤ 9 → ∀ t k1 g1, r = .ok t k1 g1 → 1 ≤ t.kd ∧ g1 ≤ 9) ?_ ?_ ?_ ?_ ?_ ?_ ?_ ?_ ?_ ?_ ?_ ?_ ?_ ?_ ?_ n md k g o _ h
 ·exact key hm hg t k1 g1 rfl
 ·intro bs k g o c p _ _ _ t k1 g1 e; cases e
 ·intro bs k g o b k1 g1 r h1 _ h2 hm hg t k2 g2 e
  have a := h1 (fun x hx => by cases hx) hg _ _ _ rfl
  exact h2 (kd_snoc hm a.1) a.2 _ _ _ e
 ·intro bs k g o b k1 g1 h1 _ hm hg t k2 g2 e
  have a := h1 (fun x hx => by cases hx) hg _ _ _ rfl
  cases e
  exact ⟨kd_join (by decide) (kd_snoc hm a.1), a.2⟩
 ·intro k g o _ _ _ t k1 g1 e; cases e
 ·intro items k g o _ _ hm hg t k1 g1 e
  cases e
  exact ⟨kd_join (by decide) hm, hg⟩
 ·intro items k g o r _ _ h2 hm hg t k1 g1 e
  exact h2 (kd_snoc hm (by show (1 : Int) ≤ 1; decide)) hg _ _ _ e
 ·intro items k g o _ _ _ _ t k1 g1 e; cases e
 ·intro items k g o c p _ _ _ _ _ t k1 g1 e; cases e
 ·intro items k g o r _ _ _ h2 hm hg t k1 g1 e
  exact h2 (kd_rep hm) hg _ _ _ e
 ·intro items k g o _ _ _ _ t k1 g1 e; cases e
 ·intro items k g o c p _ _ _ _ _ t k1 g1 e; cases e
 ·intro items k g o t k1 g1 _ _ _ _ _ _ t' k2 g2 e; cases e
 ·intro items k g o t k1 g1 r _ h9 h1 _ h2 hm hg t' k2 g2 e
  have a := h1 (fun x hx => by cases hx) (by omega) _ _ _ rfl
  exact h2 (kd_snoc hm (by show (1 : Int) ≤ 7; decide)) a.2 _ _ _ e
 ·intro items k g o c p _ _ _ _ _ _ t k1 g1 e; cases e
 ·intro items k g o r h0 h1 h2' he _ h2 hm hg t k1 g1 e
  exact h2 (kd_snoc hm (sg_nd cf l ext k h0 h1 h2' he).1) hg _ _ _ e
theorem parseN_ok {cf : ByteArray → (Nat → Bool) × Bool} {l : List Int} {ext : Bool} {n : Nat} {t : Nd} {k g : Nat} (h : parseN cf l ext n = some (.ok t k g)) : l.length ≤ 256 ∧ rdR cf l ext n (.re []) 0 0 0 = some (.ok t k g) ∧ k = l.length ∧ 1 ≤ t.kd ∧ g ≤ 9 := by
 unfold parseN at h
 split at h
 ·cases h
 rename_i hb
 cases hr : rdR cf l ext n (.re []) 0 0 0 with
 | none => rw [hr] at h; cases h
 | some r =>
  rw [hr] at h
  cases r with
  | bad c' p' => cases h
  | ok t k g =>
   dsimp only at h
   split at h
   ·rename_i h5
    cases h
    have a := rdR_le cf l ext _ _ _ _ _ _ _ _ hr (Nat.zero_le _)
    have b := rdR_kd cf l ext _ _ _ _ _ _ _ _ hr (fun x hx => by cases hx) (Nat.zero_le _)
    have c := sg_last cf l ext k h5
    exact ⟨by omega, rfl, by omega, b⟩
   ·cases h
abbrev Th := List (Nat × Nat)
def newT (G : List St) (pb pe : Bool) (x : Nat) (L : List Nat) : List Nat := (addF G pb pe (G.length + 1) x L).drop L.length
def entT (G : List St) (pb pe : Bool) (x f : Nat) (T : Th) : Th := T ++ (newT G pb pe x (T.map Prod.fst)).map (fun y => (y, f))
def eatT (G : List St) (n i : Nat) (c : Int) (A : Th) (t : Nat × Nat) : Th :=
 match G[t.1]? with
 | some (.eat p y) => if p c.toNat then entT G false (decide (i + 1 = n)) y t.2 A else A
 | _ => A
def lateT (h : Option (Nat × Nat)) (f : Nat) : Bool :=
 match h with
 | some q => decide (q.1 < f)
 | none => false
def walkT (G : List St) (n : Nat) (c : Int) (w i : Nat) : Th → Th → Option (Nat × Nat) → Th × Option (Nat × Nat) × Bool
 | [], A, h => (A, h, false)
 | t :: r, A, h =>
  if lateT h t.2 then (A, h, false)
  else if t.1 = 0 then (if w = 2 then (A, some (t.2, i), true) else walkT G n c w i r A (some (t.2, i)))
  else walkT G n c w i r (if i = n then A else eatT G n i c A t) h
def openT (G : List St × Nat) (n a w i : Nat) (T : Th) (h : Option (Nat × Nat)) : Th :=
 if i = a ∨ (w ≠ 0 ∧ h = none) then entT G.1 (decide (i = 0)) (decide (i = n)) G.2 i T else T
def passR (G : List St × Nat) (l : List Int) (a w : Nat) : Nat → Nat → Th → Option (Nat × Nat) → Nat → Option (Nat × Nat) × Nat
 | 0, _, T, h, v => (h, v + T.length)
 | k + 1, i, T, h, v =>
  if openT G l.length a w i T h = [] then (h, v)
  else if (walkT G.1 l.length (l.getD i 0) w i (openT G l.length a w i T h) [] h).2.2 then
   ((walkT G.1 l.length (l.getD i 0) w i (openT G l.length a w i T h) [] h).2.1, v + (openT G l.length a w i T h).length + (walkT G.1 l.length (l.getD i 0) w i (openT G l.length a w i T h) [] h).1.length)
  else passR G l a w k (i + 1) (walkT G.1 l.length (l.getD i 0) w i (openT G l.length a w i T h) [] h).1 (walkT G.1 l.length (l.getD i 0) w i (openT G l.length a w i T h) [] h).2.1 (v + (openT G l.length a w i T h).length)
def passF (G : List St × Nat) (l : List Int) (a w : Nat) : Option (Nat × Nat) × Nat := if l.length < a then (none, 0) else passR G l a w (l.length + 1 - a) a [] none 0
theorem addF_nodup {G : List St} {pb pe : Bool} : ∀ (k x : Nat) (L : List Nat), L.Nodup → (addF G pb pe k x L).Nodup
 | 0, _, _, h => h
 | k + 1, x, L, h => by
  unfold addF
  split
  ·exact h
  ·rename_i hc
   have hx : (L ++ [x]).Nodup := by
    rw [List.nodup_append]
    refine ⟨h, by simp, fun a ha b hb => ?_⟩
    rw [List.mem_singleton.1 hb]
    rintro rfl
    exact hc (List.contains_iff_mem.2 ha)
   split
   ·exact addF_nodup k _ _ (addF_nodup k _ _ hx)
   ·split
    ·exact addF_nodup k _ _ hx
    ·exact hx
   ·split
    ·exact addF_nodup k _ _ hx
    ·exact hx
   ·exact hx
theorem entT_fst {G : List St} (hc : ClG G) {pb pe : Bool} {x f : Nat} {T : Th} (hx : x < G.length) : (entT G pb pe x f T).map Prod.fst = addF G pb pe (G.length + 1) x (T.map Prod.fst) := by
 have h := addF_any hc pb pe (G.length + 1) x (T.map Prod.fst) (by have := unm_le G.length (T.map Prod.fst); omega) hx
 obtain ⟨t, ht⟩ := h.pre
 unfold entT newT
 rw [← ht]
 have e : List.map (Prod.fst ∘ fun y => (y, f)) t = t := List.map_id'' (fun _ => rfl) t
 simp [e]
structure FillT (G : List St) (pb pe : Bool) (A : Th) (F : Nat) : Prop where
 nd : (A.map Prod.fst).Nodup
 so : A.Pairwise (fun a b => a.2 ≤ b.2)
 bd : ∀ t ∈ A, t.2 ≤ F
 lt : ∀ t ∈ A, t.1 < G.length
 cl : ∀ t ∈ A, ∀ z ∈ epsF G pb pe t.1, ∃ f, f ≤ t.2 ∧ (z, f) ∈ A
theorem FillT.nil (G : List St) (pb pe : Bool) (F : Nat) : FillT G pb pe [] F := ⟨List.nodup_nil, List.Pairwise.nil, fun _ h => (by cases h), fun _ h => (by cases h), fun _ h => (by cases h)⟩
theorem FillT.up {G : List St} {pb pe : Bool} {A : Th} {F F' : Nat} (h : FillT G pb pe A F) (hF : F ≤ F') : FillT G pb pe A F' := ⟨h.nd, h.so, fun t ht => Nat.le_trans (h.bd t ht) hF, h.lt, h.cl⟩
theorem FillT.uniq {G : List St} {pb pe : Bool} {A : Th} {F : Nat} (h : FillT G pb pe A F) {x f f' : Nat} (h1 : (x, f) ∈ A) (h2 : (x, f') ∈ A) : f = f' := by
 have hn := h.nd
 clear h
 induction A with
 | nil => cases h1
 | cons t r ih =>
  rw [List.map_cons, List.nodup_cons] at hn
  rcases List.mem_cons.1 h1 with e1 | e1 <;> rcases List.mem_cons.1 h2 with e2 | e2
  ·rw [← e1] at e2
   exact (Prod.mk.inj e2).2.symm
  ·exact (hn.1 (by rw [← e1]; exact List.mem_map.2 ⟨_, e2, rfl⟩)).elim
  ·exact (hn.1 (by rw [← e2]; exact List.mem_map.2 ⟨_, e1, rfl⟩)).elim
  ·exact ih e1 e2 hn.2
theorem ent_ok {G : List St} (hc : ClG G) {pb pe : Bool} {A : Th} {F f x : Nat} (h : FillT G pb pe A F) (hf : F ≤ f) (hx : x < G.length) :
  FillT G pb pe (entT G pb pe x f A) f ∧ (∃ f', f' ≤ f ∧ (x, f') ∈ entT G pb pe x f A) ∧ (∀ t ∈ A, t ∈ entT G pb pe x f A) ∧ ∀ t ∈ entT G pb pe x f A, t ∈ A ∨ (t.2 = f ∧ Rch G pb pe x t.1) := by
 have ha := addF_any hc pb pe (G.length + 1) x (A.map Prod.fst) (by have := unm_le G.length (A.map Prod.fst); omega) hx
 have hfst := entT_fst hc (pb := pb) (pe := pe) (f := f) (T := A) hx
 have hold : ∀ t ∈ A, t ∈ entT G pb pe x f A := fun t ht => List.mem_append_left _ ht
 have hnew : ∀ t ∈ entT G pb pe x f A, t ∈ A ∨ (t.2 = f ∧ t.1 ∉ A.map Prod.fst ∧ t.1 ∈ addF G pb pe (G.length + 1) x (A.map Prod.fst)) := by
  intro t ht
  rcases List.mem_append.1 ht with h1 | h1
  ·exact Or.inl h1
  ·obtain ⟨y, hy, rfl⟩ := List.mem_map.1 h1
   refine Or.inr ⟨rfl, fun hm => ?_, ?_⟩
   ·have hn := addF_nodup (G := G) (pb := pb) (pe := pe) (G.length + 1) x _ h.nd
    obtain ⟨t, ht⟩ := ha.pre
    unfold newT at hy
    rw [← ht] at hn hy
    rw [List.drop_left' rfl] at hy
    exact (List.nodup_append.1 hn).2.2 y hm y hy rfl
   ·unfold newT at hy
    exact List.mem_of_mem_drop hy
 have hmem : ∀ y ∈ addF G pb pe (G.length + 1) x (A.map Prod.fst), ∃ g, g ≤ f ∧ (y, g) ∈ entT G pb pe x f A := by
  intro y hy
  rw [← hfst] at hy
  obtain ⟨t, ht, rfl⟩ := List.mem_map.1 hy
  refine ⟨t.2, ?_, ht⟩
  rcases hnew t ht with h1 | h1
  ·exact Nat.le_trans (h.bd t h1) hf
  ·exact Nat.le_of_eq h1.1
 refine ⟨⟨?_, ?_, fun t ht => ?_, fun t ht => ?_, fun t ht z hz => ?_⟩, hmem x ha.self, hold, fun t ht => ?_⟩
 ·rw [hfst]
  exact addF_nodup _ _ _ h.nd
 ·unfold entT
  rw [List.pairwise_append]
  refine ⟨h.so, ?_, fun a ha b hb => ?_⟩
  ·rw [List.pairwise_map]
   exact List.pairwise_of_forall (fun _ _ => Nat.le_refl _)
  ·obtain ⟨y, _, rfl⟩ := List.mem_map.1 hb
   exact Nat.le_trans (h.bd a ha) hf
 ·rcases hnew t ht with h1 | h1
  ·exact Nat.le_trans (h.bd t h1) hf
  ·exact Nat.le_of_eq h1.1
 ·refine ha.lt (fun y hy => ?_) t.1 (by rw [← hfst]; exact List.mem_map.2 ⟨t, ht, rfl⟩)
  obtain ⟨u, hu, rfl⟩ := List.mem_map.1 hy
  exact h.lt u hu
 ·rcases hnew t ht with h1 | ⟨h1, h2, h3⟩
  ·obtain ⟨g, hg, hm⟩ := h.cl t h1 z hz
   exact ⟨g, hg, hold _ hm⟩
  ·rw [h1]
   exact hmem z (ha.cl t.1 h3 h2 z hz)
 ·rcases hnew t ht with h1 | ⟨h1, h2, h3⟩
  ·exact Or.inl h1
  ·rcases ha.src t.1 h3 with h4 | h4
   ·exact (h2 h4).elim
   ·exact Or.inr ⟨h1, h4⟩
structure WlkT (G : List St) (n i : Nat) (c : Int) (d A : Th) (F : Nat) : Prop where
 fill : FillT G false (decide (i + 1 = n)) A F
 src : ∀ t ∈ A, i < n ∧ ∃ x p y, (x, t.2) ∈ d ∧ G[x]? = some (.eat p y) ∧ p c.toNat = true ∧ Rch G false (decide (i + 1 = n)) y t.1
 all : i < n → ∀ t ∈ d, ∀ p y, G[t.1]? = some (.eat p y) → p c.toNat = true → ∃ f, f ≤ t.2 ∧ (y, f) ∈ A
theorem wlk_step {G : List St} (hc : ClG G) {n i : Nat} {c : Int} {d A : Th} {F : Nat} {t : Nat × Nat} (h : WlkT G n i c d A F) (hF : F ≤ t.2) (hi : i ≤ n) : WlkT G n i c (d ++ [t]) (if i = n then A else eatT G n i c A t) t.2 := by
 have stay : (i < n → ∀ p y, G[t.1]? = some (.eat p y) → ¬ p c.toNat = true) → WlkT G n i c (d ++ [t]) A t.2 := fun hn =>
  ⟨h.fill.up hF, fun u hu => by obtain ⟨h0, x, p, y, h1, h2⟩ := h.src u hu; exact ⟨h0, x, p, y, List.mem_append_left _ h1, h2⟩, fun hlt u hu p y e hp => by
   rcases List.mem_append.1 hu with h1 | h1
   ·exact h.all hlt u h1 p y e hp
   ·rw [List.mem_singleton.1 h1] at e; exact (hn hlt p y e hp).elim⟩
 split
 ·rename_i e
  exact stay fun hlt => by omega
 ·rename_i hne
  unfold eatT
  split
  ·rename_i p y e
   split
   ·rename_i hp
    have hy : y < G.length := hc t.1 _ e y (by simp [St.to])
    obtain ⟨h1, h2, h3, h4⟩ := ent_ok hc h.fill hF hy
    refine ⟨h1, fun u hu => ?_, fun hlt u hu q z e' hq => ?_⟩
    ·rcases h4 u hu with h5 | ⟨h5, h6⟩
     ·obtain ⟨h0, x, p, y, h7, h8⟩ := h.src u h5; exact ⟨h0, x, p, y, List.mem_append_left _ h7, h8⟩
     ·exact ⟨by omega, t.1, p, y, by rw [h5]; simp, e, hp, h6⟩
    ·rcases List.mem_append.1 hu with h5 | h5
     ·obtain ⟨f, hf, hm⟩ := h.all hlt u h5 q z e' hq
      exact ⟨f, hf, h3 _ hm⟩
     ·rw [List.mem_singleton.1 h5] at e' ⊢
      rw [e] at e'
      obtain ⟨rfl, rfl⟩ := St.eat.inj (Option.some.inj e')
      exact h2
   ·rename_i hp
    exact stay fun _ q z e' => by rw [e] at e'; obtain ⟨rfl, rfl⟩ := St.eat.inj (Option.some.inj e'); exact hp
  ·rename_i hn
   exact stay fun _ q z e' => (hn q z e').elim
structure EndT (G : List St) (n i : Nat) (c : Int) (w : Nat) (T : Th) (h : Option (Nat × Nat)) (r : Th × Option (Nat × Nat) × Bool) : Prop where
 ex : ∃ d e F, T = d ++ e ∧ WlkT G n i c d r.1 F ∧ (∀ t ∈ d, lateT h t.2 = false) ∧ ((∃ f, (0, f) ∈ d ∧ r.2.1 = some (f, i)) ∨ ((∀ f, (0, f) ∉ d) ∧ r.2.1 = h)) ∧ (r.2.2 = false → e = [] ∨ ∀ t ∈ e, lateT r.2.1 t.2 = true)
 told : r.2.2 = true → w = 2 ∧ ∃ f, (0, f) ∈ T ∧ r.2.1 = some (f, i) ∧ lateT h f = false
theorem late_le {h : Option (Nat × Nat)} {f g : Nat} (hfg : f ≤ g) (hl : lateT h f = true) : lateT h g = true := by
 unfold lateT at *
 split
 ·rename_i q
  have hl' : q.1 < f := of_decide_eq_true hl
  exact decide_eq_true (by omega)
 ·simp at hl
theorem walk_end {G : List St} (hc : ClG G) (hz : ∀ x, G[x]? = some .acc ↔ x = 0) {n i w : Nat} {c : Int} (hi : i ≤ n) {T : Th} (hso : T.Pairwise (fun a b => a.2 ≤ b.2)) (hnd : (T.map Prod.fst).Nodup) {h : Option (Nat × Nat)} : ∀ (r d A : Th) (F : Nat) (h' : Option (Nat × Nat)), T = d ++ r → WlkT G n i c d A F → (∀ t ∈ r, F ≤ t.2) → (∀ t ∈ d, lateT h t.2 = false) → ((∃ f, (0, f) ∈ d ∧ h' = some (f, i)) ∨ ((∀ f, (0, f) ∉ d) ∧ h' = h)) → EndT G n i c w T h (walkT G n c w i r A h')
 | [], d, A, F, h', hT, hw, _, hl, hh => ⟨⟨d, [], F, hT, hw, hl, hh, fun _ => Or.inl rfl⟩, fun e => (by cases e)⟩
 | t :: r, d, A, F, h', hT, hw, hF, hl, hh => by
  have hrt : ∀ u ∈ r, t.2 ≤ u.2 := by
   rw [hT, List.pairwise_append] at hso
   exact (List.pairwise_cons.1 hso.2.1).1
  have hdt : ∀ u ∈ d, u.2 ≤ t.2 := fun u hu => by
   rw [hT, List.pairwise_append] at hso
   exact hso.2.2 u hu t (by simp)
  unfold walkT
  split
  ·rename_i hlt
   exact ⟨⟨d, t :: r, F, hT, hw, hl, hh, fun _ => Or.inr fun u hu => by
    rcases List.mem_cons.1 hu with e | e
    ·rw [e]; exact hlt
    ·exact late_le (hrt u e) hlt⟩, fun e => (by cases e)⟩
  ·rename_i hlt
   have hlt0 : lateT h t.2 = false := by
    rcases hh with ⟨f, hf, e⟩ | ⟨_, e⟩
    ·have := hl _ hf
     have hft := hdt _ hf
     rw [e] at hlt
     have hle : t.2 ≤ f := by
      unfold lateT at hlt
      simp only [decide_eq_true_eq] at hlt
      omega
     have e2 : t.2 = f := Nat.le_antisymm hle hft
     rw [e2]
     exact this
    ·rw [← e]; simpa using hlt
   have hl' : ∀ u ∈ d ++ [t], lateT h u.2 = false := fun u hu => by
    rcases List.mem_append.1 hu with e | e
    ·exact hl u e
    ·rw [List.mem_singleton.1 e]; exact hlt0
   have hT' : T = (d ++ [t]) ++ r := by rw [hT, List.append_assoc]; rfl
   split
   ·rename_i h0
    have ht0 : (0, t.2) ∈ d ++ [t] := by rw [← h0]; simp
    have hAstay : WlkT G n i c (d ++ [t]) A F := ⟨hw.fill, fun u hu => by obtain ⟨g0, x, p, y, h1, h2⟩ := hw.src u hu; exact ⟨g0, x, p, y, List.mem_append_left _ h1, h2⟩, fun hin u hu p y e hp => by
     rcases List.mem_append.1 hu with h1 | h1
     ·exact hw.all hin u h1 p y e hp
     ·rw [List.mem_singleton.1 h1, h0, (hz 0).2 rfl] at e; cases e⟩
    split
    ·rename_i hw2
     exact ⟨⟨d ++ [t], r, F, hT', hAstay, hl', Or.inl ⟨t.2, ht0, rfl⟩, fun e => by cases e⟩, fun _ => ⟨hw2, t.2, by rw [hT']; exact List.mem_append_left _ ht0, rfl, hlt0⟩⟩
    ·exact walk_end hc hz hi hso hnd r (d ++ [t]) A F (some (t.2, i)) hT' hAstay (fun u hu => Nat.le_trans (hF t (by simp)) (hrt u hu)) hl' (Or.inl ⟨t.2, ht0, rfl⟩)
   ·rename_i h0
    refine walk_end hc hz hi hso hnd r (d ++ [t]) _ t.2 h' hT' (wlk_step hc hw (hF t (by simp)) hi) hrt hl' ?_
    rcases hh with ⟨f, hf, e⟩ | ⟨hn, e⟩
    ·exact Or.inl ⟨f, List.mem_append_left _ hf, e⟩
    ·refine Or.inr ⟨fun f hf => ?_, e⟩
     rcases List.mem_append.1 hf with h1 | h1
     ·exact hn f h1
     ·exact h0 (by rw [← List.mem_singleton.1 h1])
def AccJ (l : List Int) (G : List St) (x i j : Nat) : Prop := ∃ k, AccN l (fun q => q = j) G k x i
def MatJ (l : List Int) (G : List St × Nat) (i j : Nat) : Prop := AccJ l G.1 G.2 i j
theorem accJ_le {l : List Int} {G : List St} {x i j : Nat} (h : AccJ l G x i j) : i ≤ j := by
 obtain ⟨k, hk⟩ := h
 obtain ⟨q, h1, h2⟩ := acc_place k x i hk
 omega
theorem accN_len {l : List Int} {G : List St} {j : Nat} : ∀ (k x i : Nat), i ≤ l.length → AccN l (fun q => q = j) G k x i → j ≤ l.length
 | 0, _, _, _, h => h.elim
 | k + 1, x, i, hi, h => by
  unfold AccN at h
  split at h
  ·omega
  ·exact accN_len k _ _ (by omega) h.2.2
  ·exact accN_len k _ _ hi h.2
  ·exact accN_len k _ _ hi h.2
  ·exact h.elim (accN_len k _ _ hi) (accN_len k _ _ hi)
  ·exact h.elim
def CanB (a w i : Nat) : Prop := a ≤ i ∧ (w = 0 → i = a)
def limT (h : Option (Nat × Nat)) (i : Nat) : Nat :=
 match h with
 | some q => q.1 + 1
 | none => i
theorem acc_outT {l : List Int} {G : List St} {i j F : Nat} {T : Th} (hf : FillT G (decide (i = 0)) (decide (i = l.length)) T F) : ∀ (k x f : Nat), (x, f) ∈ T → AccN l (fun q => q = j) G k x i →
  (∃ y g, g ≤ f ∧ (y, g) ∈ T ∧ G[y]? = some .acc ∧ i = j) ∨ (∃ y g p y', g ≤ f ∧ (y, g) ∈ T ∧ G[y]? = some (.eat p y') ∧ i < l.length ∧ p (l.getD i 0).toNat = true ∧ AccJ l G y' (i + 1) j)
 | 0, _, _, _, h => h.elim
 | k + 1, x, f, hx, h => by
  have go : ∀ z, z ∈ epsF G (decide (i = 0)) (decide (i = l.length)) x → AccN l (fun q => q = j) G k z i → (∃ y g, g ≤ f ∧ (y, g) ∈ T ∧ G[y]? = some .acc ∧ i = j) ∨ (∃ y g p y', g ≤ f ∧ (y, g) ∈ T ∧ G[y]? = some (.eat p y') ∧ i < l.length ∧ p (l.getD i 0).toNat = true ∧ AccJ l G y' (i + 1) j) := by
   intro z hz ha
   obtain ⟨g, hg, hm⟩ := hf.cl (x, f) hx z hz
   have hg' : g ≤ f := hg
   rcases acc_outT hf k z g hm ha with ⟨y, g2, h1, h2⟩ | ⟨y, g2, p, y', h1, h2⟩
   ·exact Or.inl ⟨y, g2, Nat.le_trans h1 hg', h2⟩
   ·exact Or.inr ⟨y, g2, p, y', Nat.le_trans h1 hg', h2⟩
  unfold AccN at h
  split at h <;> rename_i e
  ·exact Or.inl ⟨x, f, Nat.le_refl _, hx, e, h⟩
  ·exact Or.inr ⟨x, f, _, _, Nat.le_refl _, hx, e, h.1, h.2.1, k, h.2.2⟩
  ·exact go _ (by unfold epsF; rw [e]; simp [h.1]) h.2
  ·exact go _ (by unfold epsF; rw [e]; simp [h.1]) h.2
  ·rcases h with h | h
   ·exact go _ (by unfold epsF; rw [e]; simp) h
   ·exact go _ (by unfold epsF; rw [e]; simp) h
  ·exact h.elim
structure KnowT (l : List Int) (G : List St × Nat) (a w i : Nat) (h : Option (Nat × Nat)) : Prop where
 no : h = none → ∀ b, CanB a w b → b < i → ∀ j, j < i → ¬ MatJ l G b j
 yes : ∀ b e, h = some (b, e) → CanB a w b ∧ b ≤ e ∧ e < i ∧ MatJ l G b e ∧ (∀ c, CanB a w c → c < b → ∀ j, j < i → ¬ MatJ l G c j) ∧ ∀ j, e < j → j < i → ¬ MatJ l G b j
structure LiveT (l : List Int) (G : List St × Nat) (a w i lim : Nat) (T : Th) : Prop where
 fill : FillT G.1 (decide (i = 0)) (decide (i = l.length)) T i
 snd : ∀ t ∈ T, CanB a w t.2 ∧ ∀ j, AccJ l G.1 t.1 i j → MatJ l G t.2 j
 cmp : ∀ b, CanB a w b → b < lim → ∀ j, i ≤ j → MatJ l G b j → ∃ x f, (x, f) ∈ T ∧ f ≤ b ∧ AccJ l G.1 x i j
theorem open_ok {l : List Int} {G : List St × Nat} (hc : ClG G.1) (hst : G.2 < G.1.length) {a w i : Nat} (hai : a ≤ i) {h : Option (Nat × Nat)} {T : Th} (hL : LiveT l G a w i (limT h i) T) :
  LiveT l G a w i (limT h (i + 1)) (openT G l.length a w i T h) := by
 unfold openT
 split
 ·rename_i ho
  obtain ⟨h1, h2, h3, h4⟩ := ent_ok hc (f := i) hL.fill (Nat.le_refl _) hst
  refine ⟨h1, fun t ht => ?_, fun b hb hlt j hj hm => ?_⟩
  ·rcases h4 t ht with h5 | ⟨h5, h6⟩
   ·exact hL.snd t h5
   ·refine ⟨?_, fun j hj => ?_⟩
    ·rw [h5]
     exact ⟨hai, fun e => ho.elim id fun e2 => (e2.1 e).elim⟩
    ·rw [h5]
     obtain ⟨k, hk⟩ := hj
     exact acc_rch h6 k hk
  ·by_cases hbl : b < limT h i
   ·obtain ⟨x, f, h5, h6, h7⟩ := hL.cmp b hb hbl j hj hm
    exact ⟨x, f, h3 _ h5, h6, h7⟩
   ·have e : b = i := by
     cases h with
     | none => simp only [limT] at hbl hlt; omega
     | some q => exact (hbl hlt).elim
    subst e
    obtain ⟨f, hf, hm2⟩ := h2
    exact ⟨G.2, f, hm2, hf, hm⟩
 ·rename_i ho
  refine ⟨hL.fill, hL.snd, fun b hb hlt j hj hm => ?_⟩
  by_cases hbl : b < limT h i
  ·exact hL.cmp b hb hbl j hj hm
  ·cases h with
   | some q => exact (hbl hlt).elim
   | none =>
    simp only [limT] at hbl hlt
    have e : b = i := by omega
    subst e
    exact (ho (by
     by_cases hw : w = 0
     ·exact Or.inl (hb.2 hw)
     ·exact Or.inr ⟨hw, rfl⟩)).elim
theorem walk_ok {l : List Int} {G : List St × Nat} (hz : ∀ x, G.1[x]? = some .acc ↔ x = 0) {a w i : Nat} (hi : i ≤ l.length) {h : Option (Nat × Nat)} {T : Th} (hL : LiveT l G a w i (limT h (i + 1)) T) (hK : KnowT l G a w i h) (hai : a ≤ i)
  {r : Th × Option (Nat × Nat) × Bool} (hE : EndT G.1 l.length i (l.getD i 0) w T h r) (hnt : r.2.2 = false) : LiveT l G a w (i + 1) (limT r.2.1 (i + 1)) r.1 ∧ KnowT l G a w (i + 1) r.2.1 := by
 obtain ⟨d, e, F, hT, hw, hd, hh, hrest⟩ := hE.ex
 have hrest := hrest hnt
 have hdT : ∀ t ∈ d, t ∈ T := fun t ht => by rw [hT]; exact List.mem_append_left _ ht
 have end0 : ∀ b, CanB a w b → b < limT h (i + 1) → MatJ l G b i → ∃ f, f ≤ b ∧ (0, f) ∈ T := by
  intro b hb hlt hm
  obtain ⟨x, f, h1, h2, k, h3⟩ := hL.cmp b hb hlt i (Nat.le_refl _) hm
  rcases acc_outT hL.fill k x f h1 h3 with ⟨y, g, h4, h5, h6, _⟩ | ⟨y, g, p, y', _, _, _, _, _, h4⟩
  ·rw [(hz y).1 h6] at h5
   exact ⟨g, Nat.le_trans h4 h2, h5⟩
  ·have := accJ_le h4
   omega
 have m0 : ∀ f, (0, f) ∈ T → MatJ l G f i := fun f hf => (hL.snd _ hf).2 i ⟨1, (accN_acc ((hz 0).2 rfl)).2 rfl⟩
 have hlim : limT r.2.1 (i + 1) ≤ limT h (i + 1) := by
  rcases hh with ⟨f, hf, e1⟩ | ⟨_, e1⟩
  ·rw [e1]
   have h1 := hd _ hf
   have h2 := hL.fill.bd _ (hdT _ hf)
   cases h with
   | none => simp only [limT]; exact Nat.succ_le_succ h2
   | some q =>
    simp only [lateT, decide_eq_false_iff_not] at h1
    simp only [limT]
    omega
  ·rw [e1]; exact Nat.le_refl _
 have early : ∀ x f, (x, f) ∈ T → f < limT r.2.1 (i + 1) → (x, f) ∈ d := by
  intro x f hx hf
  rw [hT] at hx
  rcases List.mem_append.1 hx with h1 | h1
  ·exact h1
  ·rcases hrest with e1 | e1
   ·rw [e1] at h1; cases h1
   ·have h2 := e1 _ h1
    cases hr : r.2.1 with
    | none => rw [hr] at h2; simp [lateT] at h2
    | some q =>
     rw [hr] at h2 hf
     simp only [lateT, decide_eq_true_eq] at h2
     simp only [limT] at hf
     omega
 refine ⟨⟨?_, fun t ht => ?_, fun b hb hlt j hj hm => ?_⟩, ?_, ?_⟩
 ·have e0 : decide (i + 1 = 0) = false := by simp
  rw [e0]
  refine ⟨hw.fill.nd, hw.fill.so, fun t ht => ?_, hw.fill.lt, hw.fill.cl⟩
  obtain ⟨_, x, p, y, h1, _⟩ := hw.src t ht
  have := hL.fill.bd _ (hdT _ h1)
  exact Nat.le_succ_of_le this
 ·obtain ⟨hin, x, p, y, h1, h2, h3, h4⟩ := hw.src t ht
  obtain ⟨h5, h6⟩ := hL.snd _ (hdT _ h1)
  refine ⟨h5, fun j hj => h6 j ?_⟩
  obtain ⟨k, hk⟩ := hj
  have e0 : decide (i + 1 = 0) = false := by simp
  rw [← e0] at h4
  obtain ⟨k', hk'⟩ := acc_rch h4 k hk
  exact ⟨k' + 1, (accN_eat h2).2 ⟨hin, h3, hk'⟩⟩
 ·obtain ⟨x, f, h1, h2, k, h3⟩ := hL.cmp b hb (Nat.lt_of_lt_of_le hlt hlim) j (by omega) hm
  rcases acc_outT hL.fill k x f h1 h3 with ⟨y, g, _, _, _, h4⟩ | ⟨y, g, p, y', h4, h5, h6, h7, h8, h9⟩
  ·omega
  ·have h10 := early y g h5 (by omega)
   obtain ⟨f2, h11, h12⟩ := hw.all h7 _ h10 p y' h6 h8
   have h11' : f2 ≤ g := h11
   exact ⟨y', f2, h12, by omega, h9⟩
 ·intro hn b hb hbi j hj hm
  rcases hh with ⟨f, hf, e1⟩ | ⟨hno, e1⟩
  ·rw [hn] at e1; cases e1
  ·have hhn : h = none := by rw [← e1]; exact hn
   have hbj := accJ_le hm
   by_cases hji : j = i
   ·subst hji
    obtain ⟨f, hf, h0⟩ := end0 b hb (by rw [hhn]; exact hbi) hm
    exact hno f (early 0 f h0 (by rw [hn]; simp only [limT]; omega))
   ·exact hK.no hhn b hb (by omega) j (by omega) hm
 ·intro b e2 hr
  rcases hh with ⟨f, hf, e1⟩ | ⟨hno, e1⟩
  ·rw [e1] at hr
   obtain ⟨rfl, rfl⟩ := Prod.mk.inj (Option.some.inj hr)
   have hfT := hdT _ hf
   have hfi := hL.fill.bd _ hfT
   refine ⟨(hL.snd _ hfT).1, hfi, Nat.lt_succ_self _, m0 f hfT, fun c hcb hlt j hj hm => ?_, fun j h1 h2 => by omega⟩
   have hlt2 : c < limT h (i + 1) := by
    have h3 := hd _ hf
    cases h with
    | none => simp only [limT]; have : f ≤ i := hfi; omega
    | some q => simp only [lateT, decide_eq_false_iff_not] at h3; simp only [limT]; omega
   by_cases hji : j = i
   ·subst hji
    obtain ⟨g, hg, h0⟩ := end0 c hcb hlt2 hm
    have := hL.fill.uniq h0 hfT
    omega
   ·cases hh : h with
    | none => exact hK.no hh c hcb (by have : f ≤ i := hfi; omega) j (by omega) hm
    | some q =>
     have h3 := hd _ hf
     rw [hh] at h3
     simp only [lateT, decide_eq_false_iff_not] at h3
     exact (hK.yes q.1 q.2 hh).2.2.2.2.1 c hcb (by omega) j (by omega) hm
  ·rw [e1] at hr
   obtain ⟨k1, k2, k3, k4, k5, k6⟩ := hK.yes b e2 hr
   have hlb : limT h (i + 1) = b + 1 := by rw [hr]; rfl
   have hlr : limT r.2.1 (i + 1) = b + 1 := by rw [e1]; exact hlb
   refine ⟨k1, k2, by omega, k4, fun c hcb hlt j hj hm => ?_, fun j h1 h2 hm => ?_⟩
   ·by_cases hji : j = i
    ·subst hji
     obtain ⟨g, hg, h0⟩ := end0 c hcb (by omega) hm
     exact hno g (early 0 g h0 (by omega))
    ·exact k5 c hcb hlt j (by omega) hm
   ·by_cases hji : j = i
    ·subst hji
     obtain ⟨g, hg, h0⟩ := end0 b k1 (by omega) hm
     exact hno g (early 0 g h0 (by omega))
    ·exact k6 j h1 (by omega) hm
def FoundT (l : List Int) (G : List St × Nat) (a w : Nat) (h : Option (Nat × Nat)) : Prop :=
 match h with
 | none => ∀ b, CanB a w b → b ≤ l.length → ∀ j, ¬ MatJ l G b j
 | some q => CanB a w q.1 ∧ q.1 ≤ q.2 ∧ q.2 ≤ l.length ∧ MatJ l G q.1 q.2 ∧ (w ≠ 2 → (∀ c, CanB a w c → c < q.1 → ∀ j, ¬ MatJ l G c j) ∧ ∀ j, q.2 < j → ¬ MatJ l G q.1 j)
theorem matJ_len {l : List Int} {G : List St × Nat} {i j : Nat} (hi : i ≤ l.length) (h : MatJ l G i j) : i ≤ j ∧ j ≤ l.length := by
 have h1 := accJ_le h
 obtain ⟨k, hk⟩ := h
 exact ⟨h1, accN_len k _ _ hi hk⟩
theorem found_of {l : List Int} {G : List St × Nat} {a w i : Nat} {h : Option (Nat × Nat)} (hK : KnowT l G a w i h) (hi : i ≤ l.length + 1) (hno : ∀ b, CanB a w b → b < limT h (l.length + 1) → ∀ j, i ≤ j → ¬ MatJ l G b j) : FoundT l G a w h := by
 cases h with
 | none =>
  intro b hb hbl j hm
  have hj := matJ_len hbl hm
  by_cases h1 : j < i
  ·exact hK.no rfl b hb (by omega) j h1 hm
  ·exact hno b hb (by simp only [limT]; omega) j (by omega) hm
 | some q =>
  obtain ⟨k1, k2, k3, k4, k5, k6⟩ := hK.yes q.1 q.2 rfl
  refine ⟨k1, k2, by omega, k4, fun _ => ⟨fun c hcb hlt j hm => ?_, fun j hj hm => ?_⟩⟩
  ·by_cases h1 : j < i
   ·exact k5 c hcb hlt j h1 hm
   ·exact hno c hcb (by simp only [limT]; omega) j (by omega) hm
  ·by_cases h1 : j < i
   ·exact k6 j hj h1 hm
   ·exact hno q.1 k1 (by simp only [limT]; omega) j (by omega) hm
theorem passR_found {l : List Int} {G : List St × Nat} (hc : ClG G.1) (hz : ∀ x, G.1[x]? = some .acc ↔ x = 0) (hst : G.2 < G.1.length) (a w : Nat) : ∀ (k i : Nat) (T : Th) (h : Option (Nat × Nat)) (v : Nat), i + k = l.length + 1 → a ≤ i → LiveT l G a w i (limT h i) T → KnowT l G a w i h → FoundT l G a w (passR G l a w k i T h v).1
 | 0, i, T, h, v, hik, hai, hL, hK => by
  have hi : i = l.length + 1 := by omega
  show FoundT l G a w h
  refine found_of hK (by omega) (fun b hb hlt j hj hm => ?_)
  have hbl : b ≤ l.length := by
   cases h with
   | none => simp only [limT] at hlt; omega
   | some q => have := (hK.yes q.1 q.2 rfl).2; simp only [limT] at hlt; omega
  have := matJ_len hbl hm
  omega
 | k + 1, i, T, h, v, hik, hai, hL, hK => by
  have hO := open_ok hc hst hai hL
  have hE := walk_end hc hz (w := w) (c := l.getD i 0) (i := i) (n := l.length) (by omega) hO.fill.so hO.fill.nd (h := h) (openT G l.length a w i T h) [] [] 0 h rfl ⟨FillT.nil _ _ _ _, fun _ h => (by cases h), fun _ _ h => (by cases h)⟩ (fun _ _ => Nat.zero_le _) (fun _ h => (by cases h)) (Or.inr ⟨fun _ h => (by cases h), rfl⟩)
  unfold passR
  split
  ·rename_i he
   rw [he] at hO
   have hno : ∀ b, CanB a w b → b < limT h (i + 1) → ∀ j, i ≤ j → ¬ MatJ l G b j := fun b hb hlt j hj hm => by
    obtain ⟨x, f, h1, _⟩ := hO.cmp b hb hlt j hj hm
    cases h1
   have hopen : h = none → w = 0 ∧ i ≠ a := by
    intro hn
    by_cases h2 : i = a ∨ (w ≠ 0 ∧ h = none)
    ·exfalso
     unfold openT at he
     rw [if_pos h2] at he
     obtain ⟨_, ⟨f, _, hm⟩, _⟩ := ent_ok hc (pb := decide (i = 0)) (pe := decide (i = l.length)) (f := i) hL.fill (Nat.le_refl _) hst
     rw [he] at hm
     cases hm
    ·exact ⟨by
      by_cases hw : w = 0
      ·exact hw
      ·exact (h2 (Or.inr ⟨hw, hn⟩)).elim, fun e => h2 (Or.inl e)⟩
   refine found_of hK (by omega) (fun b hb hlt => hno b hb ?_)
   cases hh : h with
   | some q => rw [hh] at hlt; exact hlt
   | none => have := hb.2 (hopen hh).1; simp only [limT]; omega
  ·split
   ·rename_i ht
    obtain ⟨hw2, f, h1, h2, h3⟩ := hE.told ht
    rw [h2]
    have hb := hO.fill.bd _ h1
    refine ⟨(hO.snd _ h1).1, hb, by omega, (hO.snd _ h1).2 i ⟨1, (accN_acc ((hz 0).2 rfl)).2 rfl⟩, fun hn => (hn hw2).elim⟩
   ·rename_i ht
    obtain ⟨h1, h2⟩ := walk_ok hz (by omega) hO hK hai hE (by simpa using ht)
    exact passR_found hc hz hst a w k (i + 1) _ _ _ (by omega) (by omega) h1 h2
theorem passF_found {l : List Int} {G : List St × Nat} (hc : ClG G.1) (hz : ∀ x, G.1[x]? = some .acc ↔ x = 0) (hst : G.2 < G.1.length) (a w : Nat) : FoundT l G a w (passF G l a w).1 := by
 unfold passF
 split
 ·rename_i hlt
  intro b hb hbl
  have := hb.1
  omega
 ·exact passR_found hc hz hst a w _ a [] none 0 (by omega) (Nat.le_refl _) ⟨FillT.nil _ _ _ _, fun _ h => (by cases h), fun b hb hlt => by have := hb.1; simp only [limT] at hlt; omega⟩ ⟨fun _ b hb hlt => by have := hb.1; omega, fun _ _ h => by cases h⟩
theorem matJ_iff (l : List Int) (n : Nd) (h : n.Ok) (i j : Nat) : MatJ l n.G i j ↔ n.M l i j := by
 unfold MatJ AccJ
 rw [n.acc_iff l _ h i]
 exact ⟨fun ⟨q, h1, h2⟩ => h2 ▸ h1, fun h1 => ⟨j, h1, rfl⟩⟩
theorem unm_many {n : Nat} : ∀ (M L : List Nat), (L ++ M).Nodup → (∀ x ∈ M, x < n) → unm n (L ++ M) + M.length = unm n L
 | [], L, _, _ => by rw [List.append_nil]; rfl
 | x :: M, L, hn, hx => by
  have e : L ++ x :: M = (L ++ [x]) ++ M := by rw [List.append_assoc]; rfl
  rw [e] at hn ⊢
  have h1 := unm_many M (L ++ [x]) hn (fun y hy => hx y (by simp [hy]))
  have h2 : L.contains x = false := by
   rw [List.nodup_append] at hn
   have h3 := (List.nodup_append.1 hn.1).2.2
   cases hc : L.contains x with
   | false => rfl
   | true => exact (h3 x (List.contains_iff_mem.1 hc) x (by simp) rfl).elim
  have h3 := unm_add n L x (hx x (by simp)) h2
  rw [List.length_cons]
  omega
theorem FillT.len {G : List St} {pb pe : Bool} {A : Th} {F : Nat} (h : FillT G pb pe A F) : A.length ≤ G.length := by
 have h1 := unm_many (n := G.length) (A.map Prod.fst) [] (by rw [List.nil_append]; exact h.nd) (fun x hx => by
  obtain ⟨t, ht, rfl⟩ := List.mem_map.1 hx
  exact h.lt t ht)
 rw [unm_nil, List.length_map] at h1
 omega
theorem fill_open {G : List St × Nat} (hc : ClG G.1) (hst : G.2 < G.1.length) {n a w i : Nat} {h : Option (Nat × Nat)} {T : Th} (hF : FillT G.1 (decide (i = 0)) (decide (i = n)) T i) : FillT G.1 (decide (i = 0)) (decide (i = n)) (openT G n a w i T h) i := by
 unfold openT
 split
 ·exact (ent_ok hc hF (Nat.le_refl _) hst).1
 ·exact hF
theorem fill_walk {G : List St} {n i w : Nat} {c : Int} {T : Th} {h : Option (Nat × Nat)} {r : Th × Option (Nat × Nat) × Bool} (hF : FillT G (decide (i = 0)) (decide (i = n)) T i) (hE : EndT G n i c w T h r) : FillT G (decide (i + 1 = 0)) (decide (i + 1 = n)) r.1 (i + 1) ∧ (i = n → r.1 = []) := by
 obtain ⟨d, e, F, hT, hw, _⟩ := hE.ex
 have e0 : decide (i + 1 = 0) = false := by simp
 rw [e0]
 refine ⟨⟨hw.fill.nd, hw.fill.so, fun t ht => ?_, hw.fill.lt, hw.fill.cl⟩, fun hin => ?_⟩
 ·obtain ⟨_, x, p, y, h1, _⟩ := hw.src t ht
  have := hF.bd (x, t.2) (by rw [hT]; exact List.mem_append_left _ h1)
  exact Nat.le_succ_of_le this
 ·cases hr : r.1 with
  | nil => rfl
  | cons t q =>
   have := (hw.src t (by rw [hr]; simp)).1
   omega
theorem walk_endT {G : List St} (hc : ClG G) (hz : ∀ x, G[x]? = some .acc ↔ x = 0) {n i : Nat} (w : Nat) (c : Int) (hi : i ≤ n) {T : Th} (hF : FillT G (decide (i = 0)) (decide (i = n)) T i) (h : Option (Nat × Nat)) : EndT G n i c w T h (walkT G n c w i T [] h) :=
 walk_end hc hz hi hF.so hF.nd T [] [] 0 h rfl ⟨FillT.nil _ _ _ _, fun _ h => (by cases h), fun _ _ h => (by cases h)⟩ (fun _ _ => Nat.zero_le _) (fun _ h => (by cases h)) (Or.inr ⟨fun _ h => (by cases h), rfl⟩)
end Go.Proofs.YtnpkcllbpnmabaaGreatDoor
