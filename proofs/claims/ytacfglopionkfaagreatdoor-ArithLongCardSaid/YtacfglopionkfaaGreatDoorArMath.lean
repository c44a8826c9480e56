/- Plain facts: tokens and trees of shell arithmetic, and what reading them tells. No program. -/
import Derived.Test.YtacfglopionkfaaGreatDoorScConv
import Derived.Test.YtacfglopionkfaaGreatDoorKDg
import Derived.Lib.Strings
namespace Go.Proofs.YtacfglopionkfaaGreatDoor

/-- White bytes. -/
def whiteB (c : Int) : Bool := c == 32 || c == 9 || c == 10
/-- How long the name at the beginning is. -/
def nmN (l : List Int) : Nat := stopN (nameB l) l.length
def sEmpty : ByteArray := ⟨#[]⟩
def sNum : ByteArray := ⟨#[110, 117, 109]⟩
def sName : ByteArray := ⟨#[110, 97, 109, 101]⟩
def sQue : ByteArray := ⟨#[63]⟩
def sCol : ByteArray := ⟨#[58]⟩
def sOpen : ByteArray := ⟨#[40]⟩
def sShut : ByteArray := ⟨#[41]⟩

/-- The operators, the longest first. -/
def opList : List ByteArray := [⟨#[60, 60, 61]⟩, ⟨#[62, 62, 61]⟩, ⟨#[43, 61]⟩, ⟨#[45, 61]⟩, ⟨#[42, 61]⟩, ⟨#[47, 61]⟩, ⟨#[37, 61]⟩, ⟨#[38, 61]⟩, ⟨#[94, 61]⟩, ⟨#[124, 61]⟩, ⟨#[60, 60]⟩, ⟨#[62, 62]⟩, ⟨#[60, 61]⟩, ⟨#[62, 61]⟩, ⟨#[61, 61]⟩, ⟨#[33, 61]⟩, ⟨#[38, 38]⟩, ⟨#[124, 124]⟩, ⟨#[40]⟩, ⟨#[41]⟩, ⟨#[126]⟩, ⟨#[33]⟩, ⟨#[43]⟩, ⟨#[45]⟩, ⟨#[42]⟩, ⟨#[47]⟩, ⟨#[37]⟩, ⟨#[60]⟩, ⟨#[62]⟩, ⟨#[38]⟩, ⟨#[94]⟩, ⟨#[124]⟩, ⟨#[63]⟩, ⟨#[58]⟩, ⟨#[61]⟩]
/-- Does l begin with s? -/
def begins (l : List Int) (s : ByteArray) : Bool := decide (s.size ≤ l.length) && decide (ofBys (l.take s.size) = s)
/-- The first of the operators that l begins with, from the k-th on; none: the empty text. -/
def opFrom (l : List Int) : List ByteArray → ByteArray
  | [] => sEmpty
  | s :: r => if begins l s = true then s else opFrom l r
def opB (l : List Int) : ByteArray := opFrom l opList

structure Tk where
  kind : Int
  start : Nat
  stop : Nat
  text : ByteArray
  num : Int
  over : Bool

/-- The token that stands just at the place p, of which the rest is what follows. -/
def tokL (rest : List Int) (p : Nat) : Tk :=
  if rest.length = 0 then ⟨0, p, p, sEmpty, 0, false⟩
  else if 0 < nmN rest then ⟨3, p, p + nmN rest, ofBys (rest.take (nmN rest)), 0, false⟩
  else if 0 < cN rest then ⟨2, p, p + cN rest, sEmpty, cV rest, cO rest⟩
  else if ¬ opB rest = sEmpty then ⟨4, p, p + (opB rest).size, opB rest, 0, false⟩
  else ⟨1, p, p, sEmpty, 0, false⟩
def skipN (l : List Int) (p : Nat) : Nat := p + pre whiteB (l.drop p)
/-- The first token from the place p on. -/
def tok (l : List Int) (p : Nat) : Tk := tokL (l.drop (skipN l p)) (skipN l p)

/-- Does an operator set the name ahead of it? -/
def asgB (s : ByteArray) : Bool := !(decide (s = ⟨#[60, 61]⟩) || decide (s = ⟨#[62, 61]⟩) || decide (s = ⟨#[61, 61]⟩) || decide (s = ⟨#[33, 61]⟩)) && Lib.hasSuffix s.data.toList [61]
def opRows : List (List ByteArray) := [[⟨#[124, 124]⟩], [⟨#[38, 38]⟩], [⟨#[124]⟩], [⟨#[94]⟩], [⟨#[38]⟩], [⟨#[61, 61]⟩, ⟨#[33, 61]⟩], [⟨#[60]⟩, ⟨#[60, 61]⟩, ⟨#[62]⟩, ⟨#[62, 61]⟩], [⟨#[60, 60]⟩, ⟨#[62, 62]⟩], [⟨#[43]⟩, ⟨#[45]⟩], [⟨#[42]⟩, ⟨#[47]⟩, ⟨#[37]⟩]]
/-- The number of the first row, from k on, that has s; none: 0. -/
def rowFrom (s : ByteArray) : List (List ByteArray) → Nat → Nat
  | [], _ => 0
  | r :: rs, k => if r.any (fun x => decide (x = s)) = true then k + 1 else rowFrom s rs (k + 1)
/-- How strongly an operator between operands binds. -/
def strN (s : ByteArray) : Nat := rowFrom s opRows 0
/-- What the tree calls an operator of one operand. -/
def unB (s : ByteArray) : ByteArray := if s = ⟨#[43]⟩ ∨ s = ⟨#[45]⟩ then ⟨#[117]⟩ ++ s else if s = ⟨#[33]⟩ ∨ s = ⟨#[126]⟩ then s else sEmpty
/-- Would what stands at p go on a word that ended there? -/
def goesB (l : List Int) (p : Nat) : Bool := decide (p < l.length) && (numB (l.getD p 0) || decide (0 < nmN (l.drop p)))

inductive Tr
  | num (n : Int) (p : Nat)
  | name (s : ByteArray) (p : Nat)
  | un (op : ByteArray) (p : Nat) (a : Tr)
  | bin (op : ByteArray) (p : Nat) (a b : Tr)
  | cond (op : ByteArray) (p : Nat) (a b c : Tr)
  | asg (op s : ByteArray) (p q : Nat) (a : Tr)
def Tr.op : Tr → ByteArray
  | .num _ _ => sNum
  | .name _ _ => sName
  | .un op _ _ => op
  | .bin op _ _ _ => op
  | .cond op _ _ _ _ => op
  | .asg op _ _ _ _ => op
def Tr.val : Tr → Int
  | .num n _ => n
  | _ => 0
def Tr.nm : Tr → ByteArray
  | .name s _ => s
  | .asg _ s _ _ _ => s
  | _ => sEmpty
def Tr.pos : Tr → Nat
  | .num _ p => p
  | .name _ p => p
  | .un _ p _ => p
  | .bin _ p _ _ => p
  | .cond _ p _ _ _ => p
  | .asg _ _ p _ _ => p
def Tr.apos : Tr → Nat
  | .asg _ _ _ q _ => q
  | _ => 0

inductive Md
  | expr
  | cond
  | bin (least : Nat)
  | loop (least : Nat) (left : Tr)
  | opd
inductive Rs
  | ok (t : Tr) (next : Tk)
  | bad (code : Nat) (pos : Nat)
/-- The error of a token that may not stand where it stands. -/
def Tk.code (t : Tk) : Nat := if t.over then 6 else 3
def refuse (t : Tk) : Rs := .bad t.code t.start

/-- What reading tells, by so many calls. -/
def rd (l : List Int) : Nat → Md → Tk → Option Rs
  | 0, _, _ => none
  | n + 1, .expr, t =>
    if t.kind = 3 ∧ asgB (tok l t.stop).text = true then
      match rd l n .expr (tok l (tok l t.stop).stop) with
      | some (.ok e t') => some (.ok (.asg (tok l t.stop).text t.text t.start (tok l t.stop).start e) t')
      | r => r
    else rd l n .cond t
  | n + 1, .cond, t =>
    match rd l n (.bin 1) t with
    | some (.ok a t1) =>
      if t1.text = sQue then
        match rd l n .expr (tok l t1.stop) with
        | some (.ok y t2) =>
          if t2.text = sCol then
            match rd l n .cond (tok l t2.stop) with
            | some (.ok z t3) => some (.ok (.cond t1.text t1.start a y z) t3)
            | r => r
          else some (refuse t2)
        | r => r
      else some (.ok a t1)
    | r => r
  | n + 1, .bin least, t =>
    match rd l n .opd t with
    | some (.ok a t1) => rd l n (.loop least a) t1
    | r => r
  | n + 1, .loop least left, t =>
    if least ≤ strN t.text then
      match rd l n (.bin (strN t.text + 1)) (tok l t.stop) with
      | some (.ok b t2) => rd l n (.loop least (.bin t.text t.start left b)) t2
      | r => r
    else some (.ok left t)
  | n + 1, .opd, t =>
    if t.kind = 2 then
      if t.over then some (refuse t) else if goesB l t.stop then some (.bad 3 t.stop) else some (.ok (.num t.num t.start) (tok l t.stop))
    else if t.kind = 3 then some (.ok (.name t.text t.start) (tok l t.stop))
    else if ¬ unB t.text = sEmpty then
      match rd l n .opd (tok l t.stop) with
      | some (.ok a t1) => some (.ok (.un (unB t.text) t.start a) t1)
      | r => r
    else if t.text = sOpen then
      match rd l n .expr (tok l t.stop) with
      | some (.ok e t1) => if t1.text = sShut then some (.ok e (tok l t1.stop)) else some (refuse t1)
      | r => r
    else some (refuse t)

end Go.Proofs.YtacfglopionkfaaGreatDoor
