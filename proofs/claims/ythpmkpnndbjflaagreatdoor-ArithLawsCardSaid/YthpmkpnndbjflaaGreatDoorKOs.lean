/- KOs: several texts in one (kmerge.py). -/
import Derived.Test.YthpmkpnndbjflaaGreatDoorKDl
import Derived.Test.YthpmkpnndbjflaaGreatDoorKTx
import Derived.Laws.Closers25b
/- Plain facts: the names and operators of the trees that reading tells. No program. -/
namespace Go.Proofs.YthpmkpnndbjflaaGreatDoor
open Go.RowKit

def unL : List ByteArray := [⟨#[117, 43]⟩, ⟨#[117, 45]⟩, ⟨#[33]⟩, ⟨#[126]⟩]
/-- A text that is a name. -/
def NmOk (s : ByteArray) : Prop := ¬ s = sEmpty ∧ nmN (bys s) = s.size
/-- Names are names, operators operators. -/
def Tr.Ops : Tr → Prop
  | .num n _ => 0 ≤ n ∧ n ≤ 9223372036854775807
  | .name s _ => NmOk s
  | .un op _ a => op ∈ unL ∧ a.Ops
  | .bin op _ a b => 1 ≤ strN op ∧ a.Ops ∧ b.Ops
  | .cond op _ a b c => op = sQue ∧ a.Ops ∧ b.Ops ∧ c.Ops
  | .asg op s _ _ a => asgB op = true ∧ op ∈ opList ∧ NmOk s ∧ a.Ops

theorem bytT {l : List Int} (h : Byt l) (j : Nat) : Byt (l.take j) := fun i => by
  have := h i
  simp only [List.getD_eq_getElem?_getD, List.getElem?_take] at this ⊢
  split
  · exact this
  · simp
theorem bytD {l : List Int} (h : Byt l) (j : Nat) : Byt (l.drop j) := fun i => by
  have := h (j + i)
  simpa only [List.getD_eq_getElem?_getD, List.getElem?_drop] using this
/-- A name's bytes, each in its place. -/
theorem nmN_is (l : List Int) : IsStop (nameB l) l.length (nmN l) := stopN_is _ _
theorem nmN_take (r : List Int) : nmN (r.take (nmN r)) = nmN r := by
  have h := nmN_is r
  generalize nmN r = k at h
  have hlen : (r.take k).length = k := by rw [List.length_take]; have := h.1; omega
  refine (nmN_is (r.take k)).same ⟨by omega, fun j hj => ?_, fun hj => by omega⟩
  have := h.2.1 j hj
  unfold nameB at this ⊢
  rw [List.getD_eq_getElem?_getD, List.getElem?_take, if_pos hj, ← List.getD_eq_getElem?_getD]
  exact this
theorem nmOk_take (r : List Int) (hb : Byt r) (h : 0 < nmN r) : NmOk (ofBys (r.take (nmN r))) := by
  have hle := (nmN_is r).1
  have hby : Byt (r.take (nmN r)) := bytT hb _
  refine ⟨fun e => ?_, ?_⟩
  · have := congrArg ByteArray.size e
    rw [ofBys_size, List.length_take] at this
    have : sEmpty.size = 0 := rfl
    omega
  · rw [bys_ofBys hby, nmN_take, ofBys_size, List.length_take]
    omega
/-- What a token's text is. -/
structure Tk.Is (t : Tk) : Prop where
  lo : 0 ≤ t.num
  hi : t.num ≤ 9223372036854775807
  nm : t.kind = 3 → NmOk t.text
  op : ¬ t.kind = 3 → t.text = sEmpty ∨ t.text ∈ opList
theorem tok_is (l : List Int) (hb : Byt l) (p : Nat) : (tok l p).Is := by
  have hn := tok_nm l p
  refine ⟨hn.lo, hn.hi, ?_, ?_⟩
  all_goals
    clear hn
    unfold tok
    generalize skipN l p = q
    have hb' : Byt (l.drop q) := bytD hb q
    generalize l.drop q = r at hb' ⊢
    unfold tokL
    split
    · intro h; first | (simp at h; done) | exact Or.inl rfl
    · split
      · intro h
        first
          | exact nmOk_take r hb' (by assumption)
          | exact absurd rfl h
      · split
        · intro h; first | (simp at h; done) | exact Or.inl rfl
        · split
          · intro h; first | (simp at h; done) | exact (opFrom_mem _ _).imp id And.left
          · intro h; first | (simp at h; done) | exact Or.inl rfl

theorem nm_noAsg {s : ByteArray} (h : NmOk s) : asgB s = false := by
  obtain ⟨hne, h⟩ := h
  have hpos := size_pos hne
  have hlen := bys_length s
  have hh := (nmN_is (bys s)).2.1 (s.size - 1) (by omega)
  unfold asgB
  have : Lib.hasSuffix s.data.toList [61] = false := by
    rw [Bool.eq_false_iff]
    intro hc
    have hsuf : [61] <:+ s.data.toList := by simpa [Lib.hasSuffix] using hc
    obtain ⟨y, hy⟩ := hsuf
    have hb : bys s = y.map (fun c => (c.toNat : Int)) ++ [61] := by
      show s.data.toList.map _ = _
      rw [← hy]; simp
    have hy' : y.length = s.size - 1 := by
      have := congrArg List.length hb
      simp at this
      omega
    unfold nameB at hh
    rw [hb, List.getD_eq_getElem?_getD, List.getElem?_append_right (by simp; omega)] at hh
    simp [hy', letB, numB] at hh
  rw [this, Bool.and_false]

theorem mem_ex {s : ByteArray} {L : List ByteArray} (h : ∃ x ∈ L, x = s) : s ∈ L := by
  obtain ⟨x, hx, e⟩ := h
  rw [← e]
  exact hx
theorem unB_mem {s : ByteArray} (h : ¬ unB s = sEmpty) : unB s ∈ unL := by
  unfold unB at h ⊢
  split
  · rename_i c
    rcases c with rfl | rfl <;> exact mem_ex (by decide)
  · rename_i c
    rw [if_neg c] at h
    split
    · rename_i d
      rcases d with rfl | rfl <;> exact mem_ex (by decide)
    · rename_i d
      rw [if_neg d] at h
      exact absurd rfl h

def Md.LOps : Md → Prop
  | .loop _ t => t.Ops
  | _ => True

theorem rd_ops (l : List Int) (hb : Byt l) : ∀ (n : Nat) (md : Md) (t : Tk), t.Is → md.Ok → md.LOps → ∀ e t', rd l n md t = some (.ok e t') → e.Ops ∧ t'.Is
  | 0, md, t, _, _, _, e, t', h => by cases md <;> simp [rd] at h
  | n + 1, .expr, t, ht, _, _, e, t', h => by
    simp only [rd] at h
    by_cases c : t.kind = 3 ∧ asgB (tok l t.stop).text = true
    · rw [if_pos c] at h
      generalize hx : rd l n .expr (tok l (tok l t.stop).stop) = x at h
      match x, hx, h with
      | some (.ok a t1), hx, h =>
        simp only [Option.some.injEq, Rs.ok.injEq] at h
        obtain ⟨rfl, rfl⟩ := h
        obtain ⟨ha, h1⟩ := rd_ops l hb n .expr _ (tok_is _ hb _) trivial trivial _ _ hx
        have hop : (tok l t.stop).text ∈ opList := by
          have hi := tok_is l hb t.stop
          by_cases hk : (tok l t.stop).kind = 3
          · exact absurd c.2 (by rw [nm_noAsg (hi.nm hk)]; decide)
          · rcases hi.op hk with he | he
            · exact absurd c.2 (by rw [he]; decide)
            · exact he
        exact ⟨⟨c.2, hop, ht.nm c.1, ha⟩, h1⟩
    · rw [if_neg c] at h
      exact rd_ops l hb n .cond t ht trivial trivial _ _ h
  | n + 1, .cond, t, ht, _, _, e, t', h => by
    simp only [rd] at h
    generalize hx : rd l n (.bin 1) t = x at h
    match x, hx, h with
    | some (.ok a t1), hx, h =>
      obtain ⟨ha, h1⟩ := rd_ops l hb n (.bin 1) t ht (Nat.le_refl 1) trivial _ _ hx
      simp only [] at h
      by_cases c : t1.text = sQue
      · rw [if_pos c] at h
        generalize hy : rd l n .expr (tok l t1.stop) = y at h
        match y, hy, h with
        | some (.ok b t2), hy, h =>
          obtain ⟨hb0, h2⟩ := rd_ops l hb n .expr _ (tok_is _ hb _) trivial trivial _ _ hy
          simp only [] at h
          by_cases d : t2.text = sCol
          · rw [if_pos d] at h
            generalize hz : rd l n .cond (tok l t2.stop) = z at h
            match z, hz, h with
            | some (.ok f t3), hz, h =>
              obtain ⟨hf, h3⟩ := rd_ops l hb n .cond _ (tok_is _ hb _) trivial trivial _ _ hz
              simp only [Option.some.injEq, Rs.ok.injEq] at h
              obtain ⟨rfl, rfl⟩ := h
              exact ⟨⟨c, ha, hb0, hf⟩, h3⟩
          · rw [if_neg d] at h
            simp [refuse] at h
      · rw [if_neg c] at h
        simp only [Option.some.injEq, Rs.ok.injEq] at h
        obtain ⟨rfl, rfl⟩ := h
        exact ⟨ha, h1⟩
  | n + 1, .bin k, t, ht, hk, _, e, t', h => by
    simp only [rd] at h
    generalize hx : rd l n .opd t = x at h
    match x, hx, h with
    | some (.ok a t1), hx, h =>
      obtain ⟨ha, h1⟩ := rd_ops l hb n .opd t ht trivial trivial _ _ hx
      exact rd_ops l hb n (.loop k a) t1 h1 hk ha _ _ h
  | n + 1, .loop k left, t, ht, hk, hl, e, t', h => by
    simp only [rd] at h
    by_cases c : k ≤ strN t.text
    · rw [if_pos c] at h
      generalize hx : rd l n (.bin (strN t.text + 1)) (tok l t.stop) = x at h
      match x, hx, h with
      | some (.ok b t2), hx, h =>
        obtain ⟨hb0, h2⟩ := rd_ops l hb n (.bin (strN t.text + 1)) _ (tok_is _ hb _) (Nat.le_add_left 1 _) trivial _ _ hx
        exact rd_ops l hb n (.loop k (.bin t.text t.start left b)) t2 h2 hk ⟨Nat.le_trans hk c, hl, hb0⟩ _ _ h
    · rw [if_neg c] at h
      simp only [Option.some.injEq, Rs.ok.injEq] at h
      obtain ⟨rfl, rfl⟩ := h
      exact ⟨hl, ht⟩
  | n + 1, .opd, t, ht, _, _, e, t', h => by
    simp only [rd] at h
    by_cases c2 : t.kind = 2
    · rw [if_pos c2] at h
      by_cases co : t.over = true
      · rw [if_pos co] at h; simp [refuse] at h
      · rw [if_neg co] at h
        by_cases cg : goesB l t.stop = true
        · rw [if_pos cg] at h; simp at h
        · rw [if_neg cg] at h
          simp only [Option.some.injEq, Rs.ok.injEq] at h
          obtain ⟨rfl, rfl⟩ := h
          exact ⟨⟨ht.lo, ht.hi⟩, tok_is _ hb _⟩
    rw [if_neg c2] at h
    by_cases c3 : t.kind = 3
    · rw [if_pos c3] at h
      simp only [Option.some.injEq, Rs.ok.injEq] at h
      obtain ⟨rfl, rfl⟩ := h
      exact ⟨ht.nm c3, tok_is _ hb _⟩
    rw [if_neg c3] at h
    by_cases cu : ¬ unB t.text = sEmpty
    · rw [if_pos cu] at h
      generalize hx : rd l n .opd (tok l t.stop) = x at h
      match x, hx, h with
      | some (.ok a t1), hx, h =>
        simp only [Option.some.injEq, Rs.ok.injEq] at h
        obtain ⟨rfl, rfl⟩ := h
        obtain ⟨ha, h1⟩ := rd_ops l hb n .opd _ (tok_is _ hb _) trivial trivial _ _ hx
        exact ⟨⟨unB_mem cu, ha⟩, h1⟩
    rw [if_neg cu] at h
    by_cases cp : t.text = sOpen
    · rw [if_pos cp] at h
      generalize hx : rd l n .expr (tok l t.stop) = x at h
      match x, hx, h with
      | some (.ok a t1), hx, h =>
        obtain ⟨ha, h1⟩ := rd_ops l hb n .expr _ (tok_is _ hb _) trivial trivial _ _ hx
        simp only [] at h
        by_cases cs : t1.text = sShut
        · rw [if_pos cs] at h
          simp only [Option.some.injEq, Rs.ok.injEq] at h
          obtain ⟨rfl, rfl⟩ := h
          exact ⟨ha, tok_is _ hb _⟩
        · rw [if_neg cs] at h
          simp [refuse] at h
    · rw [if_neg cp] at h
      simp [refuse] at h

theorem parseP_ops {l : List Int} (hb : Byt l) {n : Nat} {e : Tr} {t : Tk} (h : parseP l n = some (.ok e t)) : e.Ops := by
  unfold parseP at h
  by_cases c : 1024 < l.length
  · rw [if_pos c] at h; simp at h
  · rw [if_neg c] at h
    unfold readP at h
    generalize hx : rd l n .expr (tok l 0) = x at h
    match x, hx, h with
    | some (.ok a t1), hx, h =>
      obtain ⟨ha, -⟩ := rd_ops l hb n .expr _ (tok_is _ hb _) trivial trivial _ _ hx
      simp only [] at h
      by_cases c : t1.kind = 0
      · rw [if_pos c] at h
        simp only [Option.some.injEq, Rs.ok.injEq] at h
        obtain ⟨rfl, rfl⟩ := h
        exact ha
      · rw [if_neg c] at h
        simp [refuse] at h
end Go.Proofs.YthpmkpnndbjflaaGreatDoor
/- Plain facts: arithmetic's code, what a run of it leaves, and that it leaves what its tree is worth. No program. -/
namespace Go.Proofs.YthpmkpnndbjflaaGreatDoor
open Go.RowKit

/-- An instruction. -/
structure Ins where
  k : Nat
  n : Int
  nm : ByteArray
  op : ByteArray
  p : Nat
  tg : Nat
def Ins.cells (i : Ins) : List Value := [.int .i64 i.k, .int .i64 i.n, .string i.nm, .string i.op, .int .i64 i.p, .int .i64 i.tg]
def iPush (n : Int) : Ins := ⟨0, n, sEmpty, sEmpty, 0, 0⟩
def iLoad (s : ByteArray) (p : Nat) : Ins := ⟨1, 0, s, sEmpty, p, 0⟩
def iStore (s : ByteArray) : Ins := ⟨2, 0, s, sEmpty, 0, 0⟩
def iOne (op : ByteArray) : Ins := ⟨3, 0, sEmpty, op, 0, 0⟩
def iTwo (op : ByteArray) (p : Nat) : Ins := ⟨4, 0, sEmpty, op, p, 0⟩
def iIf (tg : Nat) : Ins := ⟨5, 0, sEmpty, sEmpty, 0, tg⟩
def iJump (tg : Nat) : Ins := ⟨6, 0, sEmpty, sEmpty, 0, tg⟩
def sTruth : ByteArray := ⟨#[116, 114, 117, 116, 104]⟩
def sAnd2 : ByteArray := ⟨#[38, 38]⟩
def sOr2 : ByteArray := ⟨#[124, 124]⟩
/-- An operator without the = at its end. -/
def trimE (s : ByteArray) : ByteArray := ⟨(Lib.trimSuffix s.data.toList [61]).toArray⟩

def compAnd (A B : List Ins) (k : Nat) : List Ins := A ++ (iIf (k + A.length + 1 + B.length + 2) :: (B ++ [iOne sTruth, iJump (k + A.length + 1 + B.length + 3), iPush 0]))
def compOr (A B : List Ins) (k : Nat) : List Ins := A ++ (iIf (k + A.length + 3) :: iPush 1 :: iJump (k + A.length + 3 + B.length + 1) :: (B ++ [iOne sTruth]))
def compIf (A B C : List Ins) (k : Nat) : List Ins := A ++ (iIf (k + A.length + 1 + B.length + 1) :: (B ++ (iJump (k + A.length + 1 + B.length + 1 + C.length) :: C)))
/-- A tree's code from the place k on. -/
def comp : Tr → Nat → List Ins
  | .num n _, _ => [iPush n]
  | .name s p, _ => [iLoad s p]
  | .un op _ a, k => comp a k ++ [iOne op]
  | .bin op p a b, k =>
    if op = sAnd2 then compAnd (comp a k) (comp b (k + (comp a k).length + 1)) k
    else if op = sOr2 then compOr (comp a k) (comp b (k + (comp a k).length + 3)) k
    else comp a k ++ (comp b (k + (comp a k).length) ++ [iTwo op p])
  | .cond _ _ a b c, k => compIf (comp a k) (comp b (k + (comp a k).length + 1)) (comp c (k + (comp a k).length + 1 + (comp b (k + (comp a k).length + 1)).length + 1)) k
  | .asg op s p q a, k =>
    if trimE op = sEmpty then comp a k ++ [iStore s]
    else iLoad s p :: (comp a (k + 1) ++ [iTwo (trimE op) q, iStore s])

abbrev Asc := List (ByteArray × Int)
def look : Asc → ByteArray → Option Int
  | [], _ => none
  | (k, v) :: r, s => if k = s then some v else look r s
/-- What comes of a part: its value and what is set; the error; nothing that is said here. -/
inductive Rv
  | ok (v : Int) (e : Asc)
  | bad (c p : Nat)
  | no
def sPlus : ByteArray := ⟨#[43]⟩
def sMul : ByteArray := ⟨#[42]⟩
def sDiv : ByteArray := ⟨#[47]⟩
def sMod : ByteArray := ⟨#[37]⟩
theorem and63 (r : Int) : ∃ n : Nat, n < 64 ∧ bits .and .i64 r 63 = (n : Int) := by
  refine ⟨(BitVec.ofInt 64 r &&& BitVec.ofInt 64 63).toNat, ?_, ?_⟩
  · rw [BitVec.toNat_and]
    exact Nat.lt_of_le_of_lt Nat.and_le_right (by decide)
  · have h : (BitVec.ofInt 64 r &&& BitVec.ofInt 64 63).toNat < 64 := by
      rw [BitVec.toNat_and]
      exact Nat.lt_of_le_of_lt Nat.and_le_right (by decide)
    show IntKind.i64.wrap ((BitVec.ofInt 64 r &&& BitVec.ofInt 64 63).toNat : Int) = _
    rw [IntKind.wrap_i64]
    omega
/-- How far a shift goes. -/
def shN (r : Int) : Nat := (bits .and .i64 r 63).toNat
theorem shN_eq (r : Int) : bits .and .i64 r 63 = (shN r : Int) ∧ shN r < 64 := by
  obtain ⟨n, h1, h2⟩ := and63 r
  unfold shN
  rw [h2]
  exact ⟨rfl, by simpa using h1⟩
/-- What an operator makes of two numbers; nothing where it is none, or divides by nothing. -/
def resO (op : ByteArray) (l r : Int) : Option Int :=
  if op = sPlus then some (wrap64 (l + r)) else
  if op = sMul then some (wrap64 (l * r)) else
  if op = ⟨#[117, 43]⟩ then some (wrap64 r) else
  if op = ⟨#[117, 45]⟩ then some (wrap64 (-r)) else
  if op = ⟨#[45]⟩ then some (wrap64 (l - r)) else
  if op = ⟨#[126]⟩ then some (bits .xor .i64 (-1) r) else
  if op = ⟨#[94]⟩ then some (bits .xor .i64 l r) else
  if op = ⟨#[38]⟩ then some (bits .and .i64 l r) else
  if op = ⟨#[124]⟩ then some (bits .or .i64 l r) else
  if op = ⟨#[47]⟩ then (if r = 0 then none else some (wrap64 (l.tdiv r))) else
  if op = ⟨#[37]⟩ then (if r = 0 then none else some (l.tmod r)) else
  if op = ⟨#[60, 60]⟩ then some (wrap64 (l * 2 ^ shN r)) else
  if op = ⟨#[62, 62]⟩ then some (l / 2 ^ shN r) else
  if op = ⟨#[116, 114, 117, 116, 104]⟩ then some (if r ≠ 0 then 1 else 0) else
  if op = ⟨#[33, 61]⟩ then some (if l ≠ r then 1 else 0) else
  if op = ⟨#[33]⟩ then some (if r = 0 then 1 else 0) else
  if op = ⟨#[61, 61]⟩ then some (if l = r then 1 else 0) else
  if op = ⟨#[62]⟩ then some (if r < l then 1 else 0) else
  if op = ⟨#[60]⟩ then some (if l < r then 1 else 0) else
  if op = ⟨#[62, 61]⟩ then some (if r ≤ l then 1 else 0) else
  if op = ⟨#[60, 61]⟩ then some (if l ≤ r then 1 else 0) else
  none
def oneR (op : ByteArray) (v : Int) (e : Asc) : Rv := match resO op 0 v with | some x => .ok x e | none => .no
def twoR (op : ByteArray) (p : Nat) (l r : Int) (e : Asc) : Rv := if r = 0 ∧ (op = sDiv ∨ op = sMod) then .bad 12 p else match resO op l r with | some x => .ok x e | none => .no
def ldR (NV : ByteArray → Int × Nat) (s : ByteArray) (p : Nat) (e : Asc) : Rv := match look e s with | some v => .ok v e | none => if (NV s).2 = 0 then .ok (NV s).1 e else .bad (NV s).2 p
def Rv.then (r : Rv) (f : Int → Asc → Rv) : Rv := match r with | .ok v e => f v e | .bad c p => .bad c p | .no => .no
/-- What a tree is worth. -/
def ev (NV : ByteArray → Int × Nat) : Tr → Asc → Rv
  | .num n _, e => .ok n e
  | .name s p, e => ldR NV s p e
  | .un op _ a, e => (ev NV a e).then fun v e1 => oneR op v e1
  | .bin op p a b, e => (ev NV a e).then fun v e1 =>
    if op = sAnd2 then (if v = 0 then .ok 0 e1 else (ev NV b e1).then fun u e2 => oneR sTruth u e2)
    else if op = sOr2 then (if v = 0 then (ev NV b e1).then fun u e2 => oneR sTruth u e2 else .ok 1 e1)
    else (ev NV b e1).then fun u e2 => twoR op p v u e2
  | .cond _ _ a b c, e => (ev NV a e).then fun v e1 => if v = 0 then ev NV c e1 else ev NV b e1
  | .asg op s p q a, e =>
    if trimE op = sEmpty then (ev NV a e).then fun v e1 => .ok v ((s, v) :: e1)
    else (ldR NV s p e).then fun v e1 => (ev NV a e1).then fun u e2 => (twoR (trimE op) q v u e2).then fun x e3 => .ok x ((s, x) :: e3)
/-- How many numbers a tree's code lays on the stack at once, at most. -/
def need : Tr → Nat
  | .num _ _ => 1
  | .name _ _ => 1
  | .un _ _ a => 1 + need a
  | .bin _ _ a b => 1 + need a + need b
  | .cond _ _ a b c => 1 + need a + need b + need c
  | .asg _ _ _ _ a => 1 + need a
theorem need_pos : ∀ t : Tr, 1 ≤ need t := by
  intro t
  cases t <;> simp [need] <;> omega

/-- A run's state: the place, the numbers on the stack, what is set. -/
structure Ms where
  a : Nat
  st : List Int
  se : Asc
inductive So
  | go (m : Ms)
  | bad (c p : Nat)
def pushS (n : Int) (m : Ms) : Option So := if m.st.length < 1024 then some (.go ⟨m.a, n :: m.st, m.se⟩) else none
def putR (r : Rv) (m : Ms) (st : List Int) : Option So := match r with | .ok v _ => some (.go ⟨m.a, v :: st, m.se⟩) | .bad c p => some (.bad c p) | .no => none
/-- One instruction; the place is already behind it. -/
def stp (NV : ByteArray → Int × Nat) (i : Ins) (m : Ms) : Option So :=
  match i.k with
  | 0 => pushS i.n m
  | 1 => match ldR NV i.nm i.p m.se with | .ok v _ => pushS v m | .bad c p => some (.bad c p) | .no => none
  | 2 => match m.st with | v :: _ => some (.go ⟨m.a, m.st, (i.nm, v) :: m.se⟩) | [] => none
  | 3 => match m.st with | v :: r => putR (oneR i.op v m.se) m r | [] => none
  | 4 => match m.st with | u :: v :: r => putR (twoR i.op i.p v u m.se) m r | _ => none
  | 5 => if m.a ≤ i.tg then (match m.st with | v :: r => some (.go ⟨if v = 0 then i.tg else m.a, r, m.se⟩) | [] => none) else none
  | 6 => if m.a ≤ i.tg then some (.go ⟨i.tg, m.st, m.se⟩) else none
  | _ => none
/-- A whole run by just so many instructions. -/
def runs (NV : ByteArray → Int × Nat) (code : List Ins) : Nat → Ms → Option So
  | 0, m => if m.a = code.length then some (.go m) else none
  | r + 1, m => match code[m.a]? with
    | none => none
    | some i => match stp NV i ⟨m.a + 1, m.st, m.se⟩ with
      | some (.go m1) => runs NV code r m1
      | some (.bad c p) => some (.bad c p)
      | none => none
theorem runs_go {NV : ByteArray → Int × Nat} {code : List Ins} {m m1 : Ms} {i : Ins} {f : So} (hi : code[m.a]? = some i) (hs : stp NV i ⟨m.a + 1, m.st, m.se⟩ = some (.go m1)) (h : ∃ r, runs NV code r m1 = some f) : ∃ r, runs NV code r m = some f := by
  obtain ⟨r, h⟩ := h
  refine ⟨r + 1, ?_⟩
  simp only [runs, hi, hs, h]
theorem runs_bad {NV : ByteArray → Int × Nat} {code : List Ins} {m : Ms} {i : Ins} {c p : Nat} (hi : code[m.a]? = some i) (hs : stp NV i ⟨m.a + 1, m.st, m.se⟩ = some (.bad c p)) : ∃ r, runs NV code r m = some (.bad c p) := by
  refine ⟨1, ?_⟩
  simp only [runs, hi, hs]

theorem runs_at {NV : ByteArray → Int × Nat} {code : List Ins} {r a b : Nat} {st : List Int} {se : Asc} (h : a = b) : runs NV code r ⟨a, st, se⟩ = runs NV code r ⟨b, st, se⟩ := by rw [h]

/-- The code holds these instructions from the place k on. -/
def Has (code : List Ins) (k : Nat) (l : List Ins) : Prop := ∀ j u, l[j]? = some u → code[k + j]? = some u
theorem Has.head {code : List Ins} {k : Nat} {i : Ins} {l : List Ins} (h : Has code k (i :: l)) : code[k]? = some i ∧ Has code (k + 1) l :=
  ⟨h 0 i rfl, fun j u hu => by have := h (j + 1) u (by simpa using hu); rw [← this]; congr 1; omega⟩
theorem Has.app {code : List Ins} {k : Nat} {a b : List Ins} (h : Has code k (a ++ b)) : Has code k a ∧ Has code (k + a.length) b := by
  refine ⟨fun j u hu => h j u ?_, fun j u hu => ?_⟩
  · rw [List.getElem?_append_left (List.getElem?_eq_some_iff.1 hu).1]; exact hu
  · have := h (a.length + j) u (by rw [List.getElem?_append_right (by omega), Nat.add_sub_cancel_left]; exact hu)
    rw [← this]; congr 1; omega
theorem Has.self (l : List Ins) : Has l 0 l := fun j u hu => by rw [Nat.zero_add]; exact hu

/-- What a part's code does, in whatever code it stands. -/
structure Seg (NV : ByteArray → Int × Nat) (code : List Ins) (t : Tr) (k n : Nat) : Prop where
  ok : ∀ (st : List Int) (e : Asc) (v : Int) (e' : Asc) (f : So), st.length + need t ≤ 1024 → ev NV t e = .ok v e' → (∃ r, runs NV code r ⟨k + n, v :: st, e'⟩ = some f) → ∃ r, runs NV code r ⟨k, st, e⟩ = some f
  bad : ∀ (st : List Int) (e : Asc) (c p : Nat), st.length + need t ≤ 1024 → ev NV t e = .bad c p → ∃ r, runs NV code r ⟨k, st, e⟩ = some (.bad c p)

theorem Rv.then_ok {r : Rv} {f : Int → Asc → Rv} {v : Int} {e : Asc} (h : r.then f = .ok v e) : ∃ u e1, r = .ok u e1 ∧ f u e1 = .ok v e := by
  cases r with
  | ok u e1 => exact ⟨u, e1, rfl, h⟩
  | bad c p => exact absurd h (by simp [Rv.then])
  | no => exact absurd h (by simp [Rv.then])
theorem Rv.then_bad {r : Rv} {f : Int → Asc → Rv} {c p : Nat} (h : r.then f = .bad c p) : r = .bad c p ∨ ∃ u e1, r = .ok u e1 ∧ f u e1 = .bad c p := by
  cases r with
  | ok u e1 => exact Or.inr ⟨u, e1, rfl, h⟩
  | bad c' p' => exact Or.inl h
  | no => exact absurd h (by simp [Rv.then])

theorem stp_one {NV : ByteArray → Int × Nat} {op : ByteArray} {a : Nat} {v : Int} {st : List Int} {e : Asc} : stp NV (iOne op) ⟨a, v :: st, e⟩ = putR (oneR op v e) ⟨a, v :: st, e⟩ st := rfl
theorem stp_two {NV : ByteArray → Int × Nat} {op : ByteArray} {p a : Nat} {u v : Int} {st : List Int} {e : Asc} : stp NV (iTwo op p) ⟨a, u :: v :: st, e⟩ = putR (twoR op p v u e) ⟨a, u :: v :: st, e⟩ st := rfl
theorem stp_if {NV : ByteArray → Int × Nat} {tg a : Nat} {v : Int} {st : List Int} {e : Asc} (h : a ≤ tg) : stp NV (iIf tg) ⟨a, v :: st, e⟩ = some (.go ⟨if v = 0 then tg else a, st, e⟩) := if_pos h
theorem stp_jump {NV : ByteArray → Int × Nat} {tg a : Nat} {st : List Int} {e : Asc} (h : a ≤ tg) : stp NV (iJump tg) ⟨a, st, e⟩ = some (.go ⟨tg, st, e⟩) := if_pos h
theorem stp_store {NV : ByteArray → Int × Nat} {s : ByteArray} {a : Nat} {v : Int} {st : List Int} {e : Asc} : stp NV (iStore s) ⟨a, v :: st, e⟩ = some (.go ⟨a, v :: st, (s, v) :: e⟩) := rfl
theorem stp_push {NV : ByteArray → Int × Nat} {n : Int} {a : Nat} {st : List Int} {e : Asc} (h : st.length < 1024) : stp NV (iPush n) ⟨a, st, e⟩ = some (.go ⟨a, n :: st, e⟩) := by
  show pushS _ _ = _
  unfold pushS
  rw [if_pos h]
  rfl
theorem oneR_ok {op : ByteArray} {v x : Int} {e e' : Asc} (h : oneR op v e = .ok x e') : e' = e := by
  unfold oneR at h
  split at h <;> simp at h
  exact h.2.symm
theorem oneR_bad {op : ByteArray} {v : Int} {e : Asc} {c p : Nat} (h : oneR op v e = .bad c p) : False := by
  unfold oneR at h
  split at h <;> simp at h
theorem twoR_ok {op : ByteArray} {q : Nat} {l r x : Int} {e e' : Asc} (h : twoR op q l r e = .ok x e') : e' = e := by
  unfold twoR at h
  split at h
  · simp at h
  · split at h <;> simp at h
    exact h.2.symm
theorem ldR_ok {NV : ByteArray → Int × Nat} {s : ByteArray} {p : Nat} {x : Int} {e e' : Asc} (h : ldR NV s p e = .ok x e') : e' = e := by
  unfold ldR at h
  split at h
  · simp at h; exact h.2.symm
  · split at h <;> simp at h
    exact h.2.symm
theorem stp_load {NV : ByteArray → Int × Nat} {s : ByteArray} {p a : Nat} {x : Int} {st : List Int} {e e' : Asc} (h : ldR NV s p e = .ok x e') (hl : st.length < 1024) : stp NV (iLoad s p) ⟨a, st, e⟩ = some (.go ⟨a, x :: st, e⟩) := by
  show (match ldR NV s p e with | .ok v _ => pushS v ⟨a, st, e⟩ | .bad c p => some (.bad c p) | .no => none) = _
  rw [h]
  show pushS _ _ = _
  unfold pushS
  rw [if_pos hl]
theorem stp_loadB {NV : ByteArray → Int × Nat} {s : ByteArray} {p a : Nat} {c q : Nat} {st : List Int} {e : Asc} (h : ldR NV s p e = .bad c q) : stp NV (iLoad s p) ⟨a, st, e⟩ = some (.bad c q) := by
  show (match ldR NV s p e with | .ok v _ => pushS v ⟨a, st, e⟩ | .bad c p => some (.bad c p) | .no => none) = _
  rw [h]
theorem stp_oneG {NV : ByteArray → Int × Nat} {op : ByteArray} {a : Nat} {v x : Int} {st : List Int} {e e' : Asc} (h : oneR op v e = .ok x e') : stp NV (iOne op) ⟨a, v :: st, e⟩ = some (.go ⟨a, x :: st, e⟩) := by
  rw [stp_one, h]; rfl
theorem stp_twoG {NV : ByteArray → Int × Nat} {op : ByteArray} {p a : Nat} {u v x : Int} {st : List Int} {e e' : Asc} (h : twoR op p v u e = .ok x e') : stp NV (iTwo op p) ⟨a, u :: v :: st, e⟩ = some (.go ⟨a, x :: st, e⟩) := by
  rw [stp_two, h]; rfl
theorem stp_twoB {NV : ByteArray → Int × Nat} {op : ByteArray} {p a : Nat} {u v : Int} {c q : Nat} {st : List Int} {e : Asc} (h : twoR op p v u e = .bad c q) : stp NV (iTwo op p) ⟨a, u :: v :: st, e⟩ = some (.bad c q) := by
  rw [stp_two, h]; rfl

theorem comp_len : ∀ (t : Tr) (k j : Nat), (comp t k).length = (comp t j).length
  | .num _ _, _, _ => rfl
  | .name _ _, _, _ => rfl
  | .un op _ a, k, j => by simp only [comp, List.length_append]; rw [comp_len a k j]
  | .bin op p a b, k, j => by
    simp only [comp]
    rw [comp_len a k j]
    split
    · simp only [compAnd, List.length_append, List.length_cons, List.length_nil]; rw [comp_len a k j, comp_len b _ (j + (comp a j).length + 1)]
    · split
      · simp only [compOr, List.length_append, List.length_cons, List.length_nil]; rw [comp_len a k j, comp_len b _ (j + (comp a j).length + 3)]
      · simp only [List.length_append, List.length_cons, List.length_nil]; rw [comp_len a k j, comp_len b _ (j + (comp a j).length)]
  | .cond _ _ a b c, k, j => by
    simp only [comp, compIf, List.length_append, List.length_cons]
    rw [comp_len a k j, comp_len b _ (j + (comp a j).length + 1), comp_len c _ (j + (comp a j).length + 1 + (comp b (j + (comp a j).length + 1)).length + 1)]
  | .asg op s p q a, k, j => by
    simp only [comp]
    split
    · simp only [List.length_append]; rw [comp_len a k j]
    · simp only [List.length_append, List.length_cons]; rw [comp_len a (k + 1) (j + 1)]

/-- WHAT A PART's CODE LEAVES IS WHAT THE PART IS WORTH. -/
theorem seg_any (NV : ByteArray → Int × Nat) (code : List Ins) : ∀ (t : Tr) (k : Nat), Has code k (comp t k) → Seg NV code t k (comp t k).length
  | .num n p, k, h => by
    have h0 := h.head.1
    refine ⟨fun st e v e' f hl hv hr => ?_, fun st e c p hl hv => ?_⟩
    · simp only [ev, Rv.ok.injEq] at hv
      obtain ⟨rfl, rfl⟩ := hv
      exact runs_go h0 (stp_push (by simp only [need] at hl; show st.length < 1024; omega)) hr
    · simp [ev] at hv
  | .name s q, k, h => by
    have h0 := h.head.1
    refine ⟨fun st e v e' f hl hv hr => ?_, fun st e c p hl hv => ?_⟩
    · simp only [ev] at hv
      have he := ldR_ok hv
      subst he
      exact runs_go h0 (stp_load hv (by simp only [need] at hl; show st.length < 1024; omega)) hr
    · simp only [ev] at hv
      exact runs_bad h0 (stp_loadB hv)
  | .un op q a, k, h => by
    obtain ⟨ha, hb⟩ := Has.app (show Has code k (comp a k ++ [iOne op]) from h)
    have hn : (comp (.un op q a) k).length = (comp a k).length + 1 := by simp [comp]
    have ia := seg_any NV code a k ha
    refine ⟨fun st e v e' f hl hv hr => ?_, fun st e c p hl hv => ?_⟩
    · simp only [need] at hl
      obtain ⟨u, e1, h1, h2⟩ := Rv.then_ok (show (ev NV a e).then (fun v e1 => oneR op v e1) = _ from hv)
      have he := oneR_ok h2
      subst he
      refine ia.ok st e u _ f (by omega) h1 (runs_go (hb.head.1) (stp_oneG h2) ?_)
      rw [hn] at hr
      exact hr
    · simp only [need] at hl
      rcases Rv.then_bad (show (ev NV a e).then (fun v e1 => oneR op v e1) = _ from hv) with h1 | ⟨u, e1, h1, h2⟩
      · exact ia.bad st e c p (by omega) h1
      · exact (oneR_bad h2).elim
  | .bin op q a b, k, h => by
    by_cases h1 : op = sAnd2
    · have hc : comp (.bin op q a b) k = compAnd (comp a k) (comp b (k + (comp a k).length + 1)) k := by simp only [comp]; rw [if_pos h1]
      have he : ∀ e, ev NV (.bin op q a b) e = (ev NV a e).then fun v e1 => if v = 0 then .ok 0 e1 else (ev NV b e1).then fun u e2 => oneR sTruth u e2 := fun e => by simp only [ev]; simp only [if_pos h1]
      rw [hc] at h ⊢
      obtain ⟨ha, hb⟩ := h.app
      obtain ⟨g0, hb⟩ := hb.head
      obtain ⟨hb, hd⟩ := hb.app
      obtain ⟨g1, hd⟩ := hd.head
      obtain ⟨g2, hd⟩ := hd.head
      obtain ⟨g3, _⟩ := hd.head
      have ia := seg_any NV code a k ha
      have ib := seg_any NV code b _ hb
      have hn : (compAnd (comp a k) (comp b (k + (comp a k).length + 1)) k).length = (comp a k).length + 1 + (comp b (k + (comp a k).length + 1)).length + 3 := by simp [compAnd]; omega
      rw [hn]
      generalize (comp a k).length = na at *
      generalize (comp b (k + na + 1)).length = nb at *
      refine ⟨fun st e v e' f hl hv hr => ?_, fun st e c p hl hv => ?_⟩
      · simp only [need] at hl
        rw [he] at hv
        obtain ⟨u, e1, i1, i2⟩ := Rv.then_ok hv
        refine ia.ok st e u e1 f (by omega) i1 (runs_go g0 (stp_if (by first | omega | (dsimp only; omega))) ?_)
        by_cases hu : u = 0
        · rw [if_pos hu] at i2 ⊢
          simp only [Rv.ok.injEq] at i2
          obtain ⟨rfl, rfl⟩ := i2
          refine runs_go (i := iPush 0) (show code[k + na + 1 + nb + 2]? = _ by rw [← g3]) (stp_push (show st.length < 1024 by omega)) ?_
          obtain ⟨r, hr⟩ := hr
          exact ⟨r, by rw [← hr]; exact runs_at (by first | omega | (dsimp only; omega))⟩
        · rw [if_neg hu] at i2 ⊢
          obtain ⟨x, e2, j1, j2⟩ := Rv.then_ok i2
          have hq := oneR_ok j2
          subst hq
          refine ib.ok st e1 x _ f (by omega) j1 (runs_go g1 (stp_oneG j2) (runs_go g2 (stp_jump (by first | omega | (dsimp only; omega))) ?_))
          obtain ⟨r, hr⟩ := hr
          exact ⟨r, by rw [← hr]; exact runs_at (by first | omega | (dsimp only; omega))⟩
      · simp only [need] at hl
        rw [he] at hv
        rcases Rv.then_bad hv with i1 | ⟨u, e1, i1, i2⟩
        · exact ia.bad st e c p (by omega) i1
        · refine ia.ok st e u e1 _ (by omega) i1 (runs_go g0 (stp_if (by first | omega | (dsimp only; omega))) ?_)
          by_cases hu : u = 0
          · rw [if_pos hu] at i2
            simp at i2
          · rw [if_neg hu] at i2 ⊢
            rcases Rv.then_bad i2 with j1 | ⟨x, e2, j1, j2⟩
            · exact ib.bad st e1 c p (by omega) j1
            · exact (oneR_bad j2).elim
    by_cases h2 : op = sOr2
    · have hc : comp (.bin op q a b) k = compOr (comp a k) (comp b (k + (comp a k).length + 3)) k := by simp only [comp]; rw [if_neg h1, if_pos h2]
      have he : ∀ e, ev NV (.bin op q a b) e = (ev NV a e).then fun v e1 => if v = 0 then (ev NV b e1).then fun u e2 => oneR sTruth u e2 else .ok 1 e1 := fun e => by simp only [ev]; simp only [if_neg h1, if_pos h2]
      rw [hc] at h ⊢
      obtain ⟨ha, hb⟩ := h.app
      obtain ⟨g0, hb⟩ := hb.head
      obtain ⟨g1, hb⟩ := hb.head
      obtain ⟨g2, hb⟩ := hb.head
      obtain ⟨hb, hd⟩ := hb.app
      obtain ⟨g3, _⟩ := hd.head
      have ia := seg_any NV code a k ha
      have ib := seg_any NV code b _ hb
      have hn : (compOr (comp a k) (comp b (k + (comp a k).length + 3)) k).length = (comp a k).length + 3 + (comp b (k + (comp a k).length + 3)).length + 1 := by simp [compOr]; omega
      rw [hn]
      generalize (comp a k).length = na at *
      generalize (comp b (k + na + 3)).length = nb at *
      refine ⟨fun st e v e' f hl hv hr => ?_, fun st e c p hl hv => ?_⟩
      · simp only [need] at hl
        rw [he] at hv
        obtain ⟨u, e1, i1, i2⟩ := Rv.then_ok hv
        refine ia.ok st e u e1 f (by omega) i1 (runs_go g0 (stp_if (by first | omega | (dsimp only; omega))) ?_)
        by_cases hu : u = 0
        · rw [if_pos hu] at i2 ⊢
          obtain ⟨x, e2, j1, j2⟩ := Rv.then_ok i2
          have hq := oneR_ok j2
          subst hq
          refine ib.ok st e1 x _ f (by omega) j1 (runs_go g3 (stp_oneG j2) ?_)
          obtain ⟨r, hr⟩ := hr
          exact ⟨r, by rw [← hr]; exact runs_at (by first | omega | (dsimp only; omega))⟩
        · rw [if_neg hu] at i2 ⊢
          simp only [Rv.ok.injEq] at i2
          obtain ⟨rfl, rfl⟩ := i2
          refine runs_go g1 (stp_push (show st.length < 1024 by omega)) (runs_go g2 (stp_jump (by first | omega | (dsimp only; omega))) ?_)
          obtain ⟨r, hr⟩ := hr
          exact ⟨r, by rw [← hr]; exact runs_at (by first | omega | (dsimp only; omega))⟩
      · simp only [need] at hl
        rw [he] at hv
        rcases Rv.then_bad hv with i1 | ⟨u, e1, i1, i2⟩
        · exact ia.bad st e c p (by omega) i1
        · refine ia.ok st e u e1 _ (by omega) i1 (runs_go g0 (stp_if (by first | omega | (dsimp only; omega))) ?_)
          by_cases hu : u = 0
          · rw [if_pos hu] at i2 ⊢
            rcases Rv.then_bad i2 with j1 | ⟨x, e2, j1, j2⟩
            · exact ib.bad st e1 c p (by omega) j1
            · exact (oneR_bad j2).elim
          · rw [if_neg hu] at i2
            simp at i2
    · have hc : comp (.bin op q a b) k = comp a k ++ (comp b (k + (comp a k).length) ++ [iTwo op q]) := by simp only [comp]; rw [if_neg h1, if_neg h2]
      have he : ∀ e, ev NV (.bin op q a b) e = (ev NV a e).then fun v e1 => (ev NV b e1).then fun u e2 => twoR op q v u e2 := fun e => by simp only [ev]; simp only [if_neg h1, if_neg h2]
      rw [hc] at h ⊢
      obtain ⟨ha, hb⟩ := h.app
      obtain ⟨hb, hd⟩ := hb.app
      obtain ⟨g1, _⟩ := hd.head
      have ia := seg_any NV code a k ha
      have ib := seg_any NV code b _ hb
      have hn : (comp a k ++ (comp b (k + (comp a k).length) ++ [iTwo op q])).length = (comp a k).length + (comp b (k + (comp a k).length)).length + 1 := by simp; omega
      rw [hn]
      generalize (comp a k).length = na at *
      generalize (comp b (k + na)).length = nb at *
      refine ⟨fun st e v e' f hl hv hr => ?_, fun st e c p hl hv => ?_⟩
      · simp only [need] at hl
        have hpa := need_pos a
        rw [he] at hv
        obtain ⟨u, e1, i1, i2⟩ := Rv.then_ok hv
        obtain ⟨x, e2, j1, j2⟩ := Rv.then_ok i2
        have hq := twoR_ok j2
        subst hq
        refine ia.ok st e u e1 f (by omega) i1 (ib.ok (u :: st) e1 x _ f (by simp only [List.length_cons]; omega) j1 (runs_go g1 (stp_twoG j2) ?_))
        obtain ⟨r, hr⟩ := hr
        exact ⟨r, by rw [← hr]; exact runs_at (by first | omega | (dsimp only; omega))⟩
      · simp only [need] at hl
        have hpa := need_pos a
        rw [he] at hv
        rcases Rv.then_bad hv with i1 | ⟨u, e1, i1, i2⟩
        · exact ia.bad st e c p (by omega) i1
        · refine ia.ok st e u e1 _ (by omega) i1 ?_
          rcases Rv.then_bad i2 with j1 | ⟨x, e2, j1, j2⟩
          · exact ib.bad (u :: st) e1 c p (by simp only [List.length_cons]; omega) j1
          · exact ib.ok (u :: st) e1 x e2 _ (by simp only [List.length_cons]; omega) j1 (runs_bad g1 (stp_twoB j2))
  | .cond op q a b c0, k, h => by
    have hc : comp (.cond op q a b c0) k = compIf (comp a k) (comp b (k + (comp a k).length + 1)) (comp c0 (k + (comp a k).length + 1 + (comp b (k + (comp a k).length + 1)).length + 1)) k := rfl
    have he : ∀ e, ev NV (.cond op q a b c0) e = (ev NV a e).then fun v e1 => if v = 0 then ev NV c0 e1 else ev NV b e1 := fun e => rfl
    rw [hc] at h ⊢
    obtain ⟨ha, hb⟩ := h.app
    obtain ⟨g0, hb⟩ := hb.head
    obtain ⟨hb, hd⟩ := hb.app
    obtain ⟨g1, hd⟩ := hd.head
    have ia := seg_any NV code a k ha
    have ib := seg_any NV code b _ hb
    have ic := seg_any NV code c0 _ hd
    have hn : (compIf (comp a k) (comp b (k + (comp a k).length + 1)) (comp c0 (k + (comp a k).length + 1 + (comp b (k + (comp a k).length + 1)).length + 1)) k).length = (comp a k).length + 1 + (comp b (k + (comp a k).length + 1)).length + 1 + (comp c0 (k + (comp a k).length + 1 + (comp b (k + (comp a k).length + 1)).length + 1)).length := by simp [compIf]; omega
    rw [hn]
    generalize (comp a k).length = na at *
    generalize (comp b (k + na + 1)).length = nb at *
    generalize (comp c0 (k + na + 1 + nb + 1)).length = nc at *
    refine ⟨fun st e v e' f hl hv hr => ?_, fun st e c p hl hv => ?_⟩
    · simp only [need] at hl
      rw [he] at hv
      obtain ⟨u, e1, i1, i2⟩ := Rv.then_ok hv
      refine ia.ok st e u e1 f (by omega) i1 (runs_go g0 (stp_if (by first | omega | (dsimp only; omega))) ?_)
      by_cases hu : u = 0
      · rw [if_pos hu] at i2 ⊢
        refine ic.ok st e1 v e' f (by omega) i2 ?_
        obtain ⟨r, hr⟩ := hr
        exact ⟨r, by rw [← hr]; exact runs_at (by first | omega | (dsimp only; omega))⟩
      · rw [if_neg hu] at i2 ⊢
        refine ib.ok st e1 v e' f (by omega) i2 (runs_go g1 (stp_jump (by first | omega | (dsimp only; omega))) ?_)
        obtain ⟨r, hr⟩ := hr
        exact ⟨r, by rw [← hr]; exact runs_at (by first | omega | (dsimp only; omega))⟩
    · simp only [need] at hl
      rw [he] at hv
      rcases Rv.then_bad hv with i1 | ⟨u, e1, i1, i2⟩
      · exact ia.bad st e c p (by omega) i1
      · refine ia.ok st e u e1 _ (by omega) i1 (runs_go g0 (stp_if (by first | omega | (dsimp only; omega))) ?_)
        by_cases hu : u = 0
        · rw [if_pos hu] at i2 ⊢
          exact ic.bad st e1 c p (by omega) i2
        · rw [if_neg hu] at i2 ⊢
          exact ib.bad st e1 c p (by omega) i2
  | .asg op s q1 q2 a, k, h => by
    by_cases h1 : trimE op = sEmpty
    · have hc : comp (.asg op s q1 q2 a) k = comp a k ++ [iStore s] := by simp only [comp]; rw [if_pos h1]
      have he : ∀ e, ev NV (.asg op s q1 q2 a) e = (ev NV a e).then fun v e1 => .ok v ((s, v) :: e1) := fun e => by simp only [ev]; rw [if_pos h1]
      rw [hc] at h ⊢
      obtain ⟨ha, hb⟩ := h.app
      obtain ⟨g0, _⟩ := hb.head
      have ia := seg_any NV code a k ha
      have hn : (comp a k ++ [iStore s]).length = (comp a k).length + 1 := by simp
      rw [hn]
      refine ⟨fun st e v e' f hl hv hr => ?_, fun st e c p hl hv => ?_⟩
      · simp only [need] at hl
        rw [he] at hv
        obtain ⟨u, e1, i1, i2⟩ := Rv.then_ok hv
        simp only [Rv.ok.injEq] at i2
        obtain ⟨rfl, rfl⟩ := i2
        exact ia.ok st e u e1 f (by omega) i1 (runs_go g0 stp_store hr)
      · simp only [need] at hl
        rw [he] at hv
        rcases Rv.then_bad hv with i1 | ⟨u, e1, i1, i2⟩
        · exact ia.bad st e c p (by omega) i1
        · simp at i2
    · have hc : comp (.asg op s q1 q2 a) k = iLoad s q1 :: (comp a (k + 1) ++ [iTwo (trimE op) q2, iStore s]) := by simp only [comp]; rw [if_neg h1]
      have he : ∀ e, ev NV (.asg op s q1 q2 a) e = (ldR NV s q1 e).then fun v e1 => (ev NV a e1).then fun u e2 => (twoR (trimE op) q2 v u e2).then fun x e3 => .ok x ((s, x) :: e3) := fun e => by simp only [ev]; rw [if_neg h1]
      rw [hc] at h ⊢
      obtain ⟨g0, hb⟩ := h.head
      obtain ⟨ha, hb⟩ := hb.app
      obtain ⟨g1, hb⟩ := hb.head
      obtain ⟨g2, _⟩ := hb.head
      have ia := seg_any NV code a _ ha
      have hn : (iLoad s q1 :: (comp a (k + 1) ++ [iTwo (trimE op) q2, iStore s])).length = 1 + (comp a (k + 1)).length + 2 := by simp; omega
      rw [hn]
      generalize (comp a (k + 1)).length = na at *
      refine ⟨fun st e v e' f hl hv hr => ?_, fun st e c p hl hv => ?_⟩
      · simp only [need] at hl
        have hpa := need_pos a
        rw [he] at hv
        obtain ⟨u, e1, i1, i2⟩ := Rv.then_ok hv
        have hq := ldR_ok i1
        subst hq
        obtain ⟨x, e2, j1, j2⟩ := Rv.then_ok i2
        obtain ⟨y, e3, k1, k2⟩ := Rv.then_ok j2
        have hq := twoR_ok k1
        subst hq
        simp only [Rv.ok.injEq] at k2
        obtain ⟨rfl, rfl⟩ := k2
        refine runs_go g0 (stp_load i1 (show st.length < 1024 by omega)) (ia.ok (u :: st) e1 x _ f (by simp only [List.length_cons]; omega) j1 (runs_go g1 (stp_twoG k1) (runs_go g2 stp_store ?_)))
        obtain ⟨r, hr⟩ := hr
        exact ⟨r, by rw [← hr]; exact runs_at (by first | omega | (dsimp only; omega))⟩
      · simp only [need] at hl
        have hpa := need_pos a
        rw [he] at hv
        rcases Rv.then_bad hv with i1 | ⟨u, e1, i1, i2⟩
        · exact runs_bad g0 (stp_loadB i1)
        · have hq := ldR_ok i1
          subst hq
          refine runs_go g0 (stp_load i1 (show st.length < 1024 by omega)) ?_
          rcases Rv.then_bad i2 with j1 | ⟨x, e2, j1, j2⟩
          · exact ia.bad (u :: st) e1 c p (by simp only [List.length_cons]; omega) j1
          · refine ia.ok (u :: st) e1 x e2 _ (by simp only [List.length_cons]; omega) j1 ?_
            rcases Rv.then_bad j2 with k1 | ⟨y, e3, k1, k2⟩
            · exact runs_bad g1 (stp_twoB k1)
            · simp at k2

/-- A whole tree's code. -/
theorem comp_ok {NV : ByteArray → Int × Nat} {t : Tr} {v : Int} {e' : Asc} (hn : need t ≤ 1024) (h : ev NV t [] = .ok v e') : ∃ r, runs NV (comp t 0) r ⟨0, [], []⟩ = some (.go ⟨(comp t 0).length, [v], e'⟩) := by
  refine (seg_any NV (comp t 0) t 0 (Has.self _)).ok [] [] v e' _ (by simpa using hn) h ⟨0, ?_⟩
  simp [runs]
theorem comp_bad {NV : ByteArray → Int × Nat} {t : Tr} {c p : Nat} (hn : need t ≤ 1024) (h : ev NV t [] = .bad c p) : ∃ r, runs NV (comp t 0) r ⟨0, [], []⟩ = some (.bad c p) :=
  (seg_any NV (comp t 0) t 0 (Has.self _)).bad [] [] c p (by simpa using hn) h
end Go.Proofs.YthpmkpnndbjflaaGreatDoor
