/- The contract of write: an expression's text goes into a Builder. -/
import Derived.Test.YtlmoeldillpamaaDoorArDoor
import Derived.Test.YtlmoeldillpamaaDoorArBld
import Derived.Lib.ItoaMem
import Derived.Lib.AppendIntMem
import Derived.Lib.SmallJoins
import Derived.Deep.LoopGhost
namespace Go.Proofs.YtlmoeldillpamaaDoor
open Go.RowKit

/-- The table that the texts of numbers read. -/
def TP (w : World) : Prop := Lib.TabIs Tryd.prog w "internal/strconv.uint64pow10" .u64 Lib.pow10Tab
theorem TP.below {W0 w : World} (h : TP W0) (hb : Below W0.heap.size W0 w) : TP w := Go.Joins.tab_stays (g := 22) (by kernel_rfl) h hb (Nat.le_refl _)

set_option maxRecDepth 100000 in
set_option maxHeartbeats 4000000 in
theorem scText_any (n : Int) (w : World) (h0 : -9223372036854775808 ≤ n) (h1 : n ≤ 9223372036854775807) (h : TP w) :
    Calls Tryd.prog 14 #[.int .i64 n] w fun e w' => e = .returned (.string ⟨(Lib.itoa n).toArray⟩) ∧ Below w.heap.size w w' := by
  have HF := Lib.hid (Tryd.strconv_FormatInt_10 n h0 h1 w h)
  clear h
  go_enter Tryd.func14, Tryd.ntmps14
  go_wp2_with fail
  refine HF.out.mono ?_
  rintro e w1 ⟨rfl, k, os, hw⟩
  have HB : Hid (Below w.heap.size w w1) := Lib.hid (by rw [hw]; exact Lib.below_grow w.heap.size w (Nat.le_refl _) k os)
  clear hw
  go_wp2
  go_ret
  exact ⟨rfl, HB.out⟩

/-- A tree as write takes it: its names are names, its operators operators. -/
def Tr.Wf : Tr → Prop
  | .num n _ => -9223372036854775808 ≤ n ∧ n ≤ 9223372036854775807
  | .name _ _ => True
  | .un op _ a => (op ≠ sNum ∧ op ≠ sName ∧ op ≠ sEmpty) ∧ a.Wf
  | .bin op _ a b => (op ≠ sNum ∧ op ≠ sName ∧ op ≠ sEmpty) ∧ a.Wf ∧ b.Wf
  | .cond op _ a b c => (op ≠ sNum ∧ op ≠ sName ∧ op ≠ sEmpty) ∧ a.Wf ∧ b.Wf ∧ c.Wf
  | .asg op s _ _ a => (op ≠ sNum ∧ op ≠ sName ∧ op ≠ sEmpty) ∧ s ≠ sEmpty ∧ a.Wf
def Tr.kids : Tr → List Tr
  | .un _ _ a => [a]
  | .bin _ _ a b => [a, b]
  | .cond _ _ a b c => [a, b, c]
  | .asg _ _ _ _ a => [a]
  | _ => []
/-- The cells that the text of an operator's tree is, of its kids' cells. -/
def opCells (op nm : ByteArray) (ks : List (List Value)) : List Value :=
  Lib.strCells (⟨#[40]⟩ ++ op) ++ (if nm = sEmpty then [] else Lib.strCells (⟨#[32]⟩ ++ nm)) ++ (ks.map fun k => Value.int .u8 32 :: k).flatten ++ [.int .u8 41]
def cellsT : Tr → List Value
  | .num n _ => Lib.strCells ⟨(Lib.itoa n).toArray⟩
  | .name s _ => Lib.strCells s
  | .un op _ a => opCells op sEmpty [cellsT a]
  | .bin op _ a b => opCells op sEmpty [cellsT a, cellsT b]
  | .cond op _ a b c => opCells op sEmpty [cellsT a, cellsT b, cellsT c]
  | .asg op s _ _ a => opCells op s [cellsT a]

theorem owns_below {w w' : World} {B : Nat} {e : TypeId} {k : Nat} {v : Value} {n : Nat} {xs : List Value} (h : w.ownsRow B e k v n xs) (hb : Below w.heap.size w w') : w'.ownsRow B e k v n xs := by
  obtain ⟨h1, h2⟩ := h
  refine ⟨h1, ?_⟩
  rcases h2 with h2 | ⟨g, cap, cur, hv, hB, hg, hr⟩
  · exact Or.inl h2
  · exact Or.inr ⟨g, cap, cur, hv, hB, (hb.block g (lt_of_heap hg)).trans hg, hr⟩
theorem bd_below {B b : Nat} {p : Value} {bs : List Value} {w w' : World} (h : Lib.BuilderAt 66 5 B b p bs w) (hb : Below w.heap.size w w') : Lib.BuilderAt 66 5 B b p bs w' := by
  obtain ⟨h1, v, h2, h3, h4⟩ := h
  exact ⟨h1, v, (hb.block b (lt_of_heap h2)).trans h2, owns_below h3 hb, h4⟩
theorem isBd_below {B b : Nat} {bs : List Value} {w w' : World} (h : IsBd B b bs w) (hb : Below w.heap.size w w') : IsBd B b bs w' := by
  rcases h with h | h
  · exact Or.inl (bd_below h hb)
  · exact Or.inr (bd_below h hb)

theorem bd_lt {B b : Nat} {bs : List Value} {w : World} (h : IsBd B b bs w) : b < w.heap.size := by
  rcases h with h | h
  · exact h.lt
  · exact h.lt
/-- What write does of a tree, in whatever world the base world has grown to. -/
def Writes (W0 : World) (b : Nat) (v : Value) (cs : List Value) : Prop :=
  ∀ bs w, Below W0.heap.size W0 w → IsBd W0.heap.size b bs w → bs.length + cs.length ≤ 140737488355328 →
    Calls Tryd.prog 23 #[.pointer (some ⟨b, 0, none⟩), v] w fun e w' => e = .returned (.tuple #[]) ∧ (BdAt W0.heap.size b (bs ++ cs) w' ∧ Oth b w w') ∧ Below W0.heap.size W0 w'

set_option maxRecDepth 100000 in
set_option maxHeartbeats 4000000 in
theorem write_num (W0 : World) (b : Nat) (hT : TP W0) (n : Int) (p : Nat) (h0 : -9223372036854775808 ≤ n) (h1 : n ≤ 9223372036854775807) :
    Writes W0 b (.agg #[.string ⟨#[110, 117, 109]⟩, .int .i64 n, .string ⟨#[]⟩, .int .i64 p, .int .i64 0, .slice none 0 0]) (Lib.strCells ⟨(Lib.itoa n).toArray⟩) := by
  intro bs w hb hbd hlen
  have hsz := hb.size
  have HT : Hid (∀ W, Below W0.heap.size W0 W → Calls Tryd.prog 14 #[.int .i64 n] W fun e w' => e = .returned (.string ⟨(Lib.itoa n).toArray⟩) ∧ Below W.heap.size W w') := Lib.hid (fun W hW => scText_any n W h0 h1 (hT.below hW))
  have HBd := Lib.hid hbd
  have HB := Lib.hid hb
  have HL := Lib.hid hlen
  clear hbd hb hlen
  go_enter Tryd.func23, Tryd.ntmps23
  go_wp2_with fail
  have HB1 : Hid (∀ o, Below W0.heap.size W0 (w.alloc o)) := Lib.hid (fun o => HB.out.alloc hsz o)
  refine (HT.out _ (HB1.out _)).mono ?_
  rintro e w1 ⟨rfl, hb1⟩
  have HB2 : Hid (Below W0.heap.size W0 w1) := Lib.hid ((HB1.out _).trans (hb1.mono (by simp; omega)))
  have HBd2 : Hid (IsBd W0.heap.size b bs w1) := Lib.hid (isBd_below (isBd_below HBd.out ((Below.refl _ _).alloc (Nat.le_refl _) _)) hb1)
  have HO2 : Hid (Oth b w w1) := Lib.hid ((Oth.below ((Below.refl _ _).alloc (Nat.le_refl _) _)).trans (Oth.below hb1))
  clear hb1
  have h1sz := HB2.out.size
  go_wp2_with fail
  refine (bd_strW W0.heap.size b bs ⟨(Lib.itoa n).toArray⟩ w1 HBd2.out (by have := HL.out; rw [Lib.strCells_length] at this; exact this) h1sz).mono ?_
  rintro e w2 ⟨rfl, ⟨hd, ho⟩, hb2⟩
  go_wp2_with fail
  exact bodyPost_ret (results_none rfl _ _ _) rfl ⟨rfl, ⟨hd, HO2.out.trans ho⟩, HB2.out.trans hb2⟩

set_option maxRecDepth 100000 in
set_option maxHeartbeats 4000000 in
theorem write_name (W0 : World) (b : Nat) (x : ByteArray) (p : Nat) :
    Writes W0 b (.agg #[.string ⟨#[110, 97, 109, 101]⟩, .int .i64 0, .string x, .int .i64 p, .int .i64 0, .slice none 0 0]) (Lib.strCells x) := by
  intro bs w hb hbd hlen
  have hsz := hb.size
  have HBd := Lib.hid hbd
  have HB := Lib.hid hb
  have HL := Lib.hid hlen
  clear hbd hb hlen
  go_enter Tryd.func23, Tryd.ntmps23
  go_wp2_with fail
  have HB1 : Hid (∀ o, Below W0.heap.size W0 (w.alloc o)) := Lib.hid (fun o => HB.out.alloc hsz o)
  refine (bd_strW W0.heap.size b bs x _ (isBd_below HBd.out ((Below.refl _ _).alloc (Nat.le_refl _) _)) (by have := HL.out; rw [Lib.strCells_length] at this; exact this) (HB1.out _).size).mono ?_
  rintro e w2 ⟨rfl, ⟨hd, ho⟩, hb2⟩
  go_wp2_with fail
  exact bodyPost_ret (results_none rfl _ _ _) rfl ⟨rfl, ⟨hd, (Oth.below ((Below.refl _ _).alloc (Nat.le_refl _) _)).trans ho⟩, (HB1.out _).trans hb2⟩

/-- The kids lie in a block, one behind the other, and each is written as its cells. -/
def KidsAt (W0 : World) (b blk : Nat) (ks : List (List Value)) : Prop :=
  ∀ i, i < ks.length → ∃ o v n p q kv, (W0.cell? ⟨blk, i * 6, none⟩ = some (.string o) ∧ W0.cell? ⟨blk, i * 6 + 1, none⟩ = some (.int .i64 v) ∧ W0.cell? ⟨blk, i * 6 + 2, none⟩ = some (.string n) ∧ W0.cell? ⟨blk, i * 6 + 3, none⟩ = some (.int .i64 p) ∧ W0.cell? ⟨blk, i * 6 + 4, none⟩ = some (.int .i64 q) ∧ W0.cell? ⟨blk, i * 6 + 5, none⟩ = some kv) ∧ (∃ a m, kv = .slice a m m) ∧
    Writes W0 b (.agg #[.string o, .int .i64 v, .string n, .int .i64 p, .int .i64 q, kv]) (ks.getD i [])

/-- What the first k kids' texts are. -/
def kidsC (ks : List (List Value)) (k : Nat) : List Value := ((ks.take k).map fun c => Value.int .u8 32 :: c).flatten
theorem kidsC_succ (ks : List (List Value)) (k : Nat) (h : k < ks.length) : kidsC ks (k + 1) = kidsC ks k ++ (Value.int .u8 32 :: ks.getD k []) := by
  unfold kidsC
  rw [List.take_succ_eq_append_getElem h, List.map_append, List.flatten_append, List.getD, List.getElem?_eq_getElem h]
  simp
theorem kidsC_le (ks : List (List Value)) (k : Nat) : (kidsC ks k).length ≤ (kidsC ks ks.length).length := by
  unfold kidsC
  rw [List.take_length]
  conv => rhs; rw [← List.take_append_drop k ks]
  rw [List.map_append, List.flatten_append, List.length_append]
  omega

end Go.Proofs.YtlmoeldillpamaaDoor
