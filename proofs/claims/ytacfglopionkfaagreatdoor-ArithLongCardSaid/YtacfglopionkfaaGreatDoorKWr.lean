/- KWr: several texts in one (kmerge.py). -/
import Derived.Test.YtacfglopionkfaaGreatDoorKPa
import Derived.Test.YtacfglopionkfaaGreatDoorArBld
import Derived.Lib.ItoaMem
import Derived.Lib.AppendIntMem
import Derived.Lib.SmallJoins
import Derived.Deep.LoopGhost
/- The contract of write: an expression's text goes into a Builder. -/
namespace Go.Proofs.YtacfglopionkfaaGreatDoor
open Go.RowKit

/-- The table that the texts of numbers read. -/
def TP (w : World) : Prop := Lib.TabIs Tryz.prog w "internal/strconv.uint64pow10" .u64 Lib.pow10Tab
theorem TP.below {W0 w : World} (h : TP W0) (hb : Below W0.heap.size W0 w) : TP w := Go.Joins.tab_stays (g := 23) (by kernel_rfl) h hb (Nat.le_refl _)

set_option maxRecDepth 100000 in
set_option maxHeartbeats 4000000 in
theorem scText_any (n : Int) (w : World) (h0 : -9223372036854775808 ≤ n) (h1 : n ≤ 9223372036854775807) (h : TP w) :
    Calls Tryz.prog 99 #[.int .i64 n] w fun e w' => e = .returned (.string ⟨(Lib.itoa n).toArray⟩) ∧ Below w.heap.size w w' := by
  have HF := Lib.hid (Tryz.strconv_FormatInt_10 n h0 h1 w h)
  clear h
  go_enter Tryz.func99, Tryz.ntmps99
  go_wp2_with fail
  refine HF.out.mono ?_
  rintro e w1 ⟨rfl, k, os, hw⟩
  have HB : Hid (Below w.heap.size w w1) := Lib.hid (by rw [hw]; exact Lib.below_grow w.heap.size w (Nat.le_refl _) k os)
  clear hw
  go_wp2
  go_ret
  exact ⟨rfl, HB.out⟩

/-- A tree as write takes it: its names are names, its operators operators. -/
def Tr.Wf : Tr → Prop
  | .num n _ => -9223372036854775808 ≤ n ∧ n ≤ 9223372036854775807
  | .name _ _ => True
  | .un op _ a => (op ≠ sNum ∧ op ≠ sName ∧ op ≠ sEmpty) ∧ a.Wf
  | .bin op _ a b => (op ≠ sNum ∧ op ≠ sName ∧ op ≠ sEmpty) ∧ a.Wf ∧ b.Wf
  | .cond op _ a b c => (op ≠ sNum ∧ op ≠ sName ∧ op ≠ sEmpty) ∧ a.Wf ∧ b.Wf ∧ c.Wf
  | .asg op s _ _ a => (op ≠ sNum ∧ op ≠ sName ∧ op ≠ sEmpty) ∧ s ≠ sEmpty ∧ a.Wf
/-- The cells that the text of an operator's tree is, of its kids' cells. -/
def opCells (op nm : ByteArray) (ks : List (List Value)) : List Value :=
  Lib.strCells (⟨#[40]⟩ ++ op) ++ (if nm = sEmpty then [] else Lib.strCells (⟨#[32]⟩ ++ nm)) ++ (ks.map fun k => Value.int .u8 32 :: k).flatten ++ [.int .u8 41]
def cellsT : Tr → List Value
  | .num n _ => Lib.strCells ⟨(Lib.itoa n).toArray⟩
  | .name s _ => Lib.strCells s
  | .un op _ a => opCells op sEmpty [cellsT a]
  | .bin op _ a b => opCells op sEmpty [cellsT a, cellsT b]
  | .cond op _ a b c => opCells op sEmpty [cellsT a, cellsT b, cellsT c]
  | .asg op s _ _ a => opCells op s [cellsT a]

theorem owns_below {w w' : World} {B : Nat} {e : TypeId} {k : Nat} {v : Value} {n : Nat} {xs : List Value} (h : w.ownsRow B e k v n xs) (hb : Below w.heap.size w w') : w'.ownsRow B e k v n xs := by
  obtain ⟨h1, h2⟩ := h
  refine ⟨h1, ?_⟩
  rcases h2 with h2 | ⟨g, cap, cur, hv, hB, hg, hr⟩
  · exact Or.inl h2
  · exact Or.inr ⟨g, cap, cur, hv, hB, (hb.block g (lt_of_heap hg)).trans hg, hr⟩
theorem bd_below {B b : Nat} {p : Value} {bs : List Value} {w w' : World} (h : Lib.BuilderAt 147 5 B b p bs w) (hb : Below w.heap.size w w') : Lib.BuilderAt 147 5 B b p bs w' := by
  obtain ⟨h1, v, h2, h3, h4⟩ := h
  exact ⟨h1, v, (hb.block b (lt_of_heap h2)).trans h2, owns_below h3 hb, h4⟩
theorem isBd_below {B b : Nat} {bs : List Value} {w w' : World} (h : IsBd B b bs w) (hb : Below w.heap.size w w') : IsBd B b bs w' := by
  rcases h with h | h
  · exact Or.inl (bd_below h hb)
  · exact Or.inr (bd_below h hb)

theorem bd_lt {B b : Nat} {bs : List Value} {w : World} (h : IsBd B b bs w) : b < w.heap.size := by
  rcases h with h | h
  · exact h.lt
  · exact h.lt
/-- What write does of a tree, in whatever world the base world has grown to. -/
def Writes (W0 : World) (b : Nat) (v : Value) (cs : List Value) : Prop :=
  ∀ bs w, Below W0.heap.size W0 w → IsBd W0.heap.size b bs w → bs.length + cs.length ≤ 140737488355328 →
    Calls Tryz.prog 85 #[.pointer (some ⟨b, 0, none⟩), v] w fun e w' => e = .returned (.tuple #[]) ∧ (BdAt W0.heap.size b (bs ++ cs) w' ∧ Oth b w w') ∧ Below W0.heap.size W0 w'

set_option maxRecDepth 100000 in
set_option maxHeartbeats 4000000 in
theorem write_num (W0 : World) (b : Nat) (hT : TP W0) (n : Int) (p : Nat) (h0 : -9223372036854775808 ≤ n) (h1 : n ≤ 9223372036854775807) :
    Writes W0 b (.agg #[.string ⟨#[110, 117, 109]⟩, .int .i64 n, .string ⟨#[]⟩, .int .i64 p, .int .i64 0, .slice none 0 0]) (Lib.strCells ⟨(Lib.itoa n).toArray⟩) := by
  intro bs w hb hbd hlen
  have hsz := hb.size
  have HT : Hid (∀ W, Below W0.heap.size W0 W → Calls Tryz.prog 99 #[.int .i64 n] W fun e w' => e = .returned (.string ⟨(Lib.itoa n).toArray⟩) ∧ Below W.heap.size W w') := Lib.hid (fun W hW => scText_any n W h0 h1 (hT.below hW))
  have HBd := Lib.hid hbd
  have HB := Lib.hid hb
  have HL := Lib.hid hlen
  clear hbd hb hlen
  go_enter Tryz.func85, Tryz.ntmps85
  go_wp2_with fail
  have HB1 : Hid (∀ o, Below W0.heap.size W0 (w.alloc o)) := Lib.hid (fun o => HB.out.alloc hsz o)
  refine (HT.out _ (HB1.out _)).mono ?_
  rintro e w1 ⟨rfl, hb1⟩
  have HB2 : Hid (Below W0.heap.size W0 w1) := Lib.hid ((HB1.out _).trans (hb1.mono (by simp; omega)))
  have HBd2 : Hid (IsBd W0.heap.size b bs w1) := Lib.hid (isBd_below (isBd_below HBd.out ((Below.refl _ _).alloc (Nat.le_refl _) _)) hb1)
  have HO2 : Hid (Oth b w w1) := Lib.hid ((Oth.below ((Below.refl _ _).alloc (Nat.le_refl _) _)).trans (Oth.below hb1))
  clear hb1
  have h1sz := HB2.out.size
  go_wp2_with fail
  refine (bd_strW W0.heap.size b bs ⟨(Lib.itoa n).toArray⟩ w1 HBd2.out (by have := HL.out; rw [Lib.strCells_length] at this; exact this) h1sz).mono ?_
  rintro e w2 ⟨rfl, ⟨hd, ho⟩, hb2⟩
  go_wp2_with fail
  exact bodyPost_ret (results_none rfl _ _ _) rfl ⟨rfl, ⟨hd, HO2.out.trans ho⟩, HB2.out.trans hb2⟩

set_option maxRecDepth 100000 in
set_option maxHeartbeats 4000000 in
theorem write_name (W0 : World) (b : Nat) (x : ByteArray) (p : Nat) :
    Writes W0 b (.agg #[.string ⟨#[110, 97, 109, 101]⟩, .int .i64 0, .string x, .int .i64 p, .int .i64 0, .slice none 0 0]) (Lib.strCells x) := by
  intro bs w hb hbd hlen
  have hsz := hb.size
  have HBd := Lib.hid hbd
  have HB := Lib.hid hb
  have HL := Lib.hid hlen
  clear hbd hb hlen
  go_enter Tryz.func85, Tryz.ntmps85
  go_wp2_with fail
  have HB1 : Hid (∀ o, Below W0.heap.size W0 (w.alloc o)) := Lib.hid (fun o => HB.out.alloc hsz o)
  refine (bd_strW W0.heap.size b bs x _ (isBd_below HBd.out ((Below.refl _ _).alloc (Nat.le_refl _) _)) (by have := HL.out; rw [Lib.strCells_length] at this; exact this) (HB1.out _).size).mono ?_
  rintro e w2 ⟨rfl, ⟨hd, ho⟩, hb2⟩
  go_wp2_with fail
  exact bodyPost_ret (results_none rfl _ _ _) rfl ⟨rfl, ⟨hd, (Oth.below ((Below.refl _ _).alloc (Nat.le_refl _) _)).trans ho⟩, (HB1.out _).trans hb2⟩

/-- The kids lie in a block, one behind the other, and each is written as its cells. -/
def KidsAt (W0 : World) (b blk : Nat) (ks : List (List Value)) : Prop :=
  ∀ i, i < ks.length → ∃ o v n p q kv, (W0.cell? ⟨blk, i * 6, none⟩ = some (.string o) ∧ W0.cell? ⟨blk, i * 6 + 1, none⟩ = some (.int .i64 v) ∧ W0.cell? ⟨blk, i * 6 + 2, none⟩ = some (.string n) ∧ W0.cell? ⟨blk, i * 6 + 3, none⟩ = some (.int .i64 p) ∧ W0.cell? ⟨blk, i * 6 + 4, none⟩ = some (.int .i64 q) ∧ W0.cell? ⟨blk, i * 6 + 5, none⟩ = some kv) ∧ (∃ a m, kv = .slice a m m) ∧
    Writes W0 b (.agg #[.string o, .int .i64 v, .string n, .int .i64 p, .int .i64 q, kv]) (ks.getD i [])

/-- What the first k kids' texts are. -/
def kidsC (ks : List (List Value)) (k : Nat) : List Value := ((ks.take k).map fun c => Value.int .u8 32 :: c).flatten
theorem kidsC_succ (ks : List (List Value)) (k : Nat) (h : k < ks.length) : kidsC ks (k + 1) = kidsC ks k ++ (Value.int .u8 32 :: ks.getD k []) := by
  unfold kidsC
  rw [List.take_succ_eq_append_getElem h, List.map_append, List.flatten_append, List.getD, List.getElem?_eq_getElem h]
  simp
theorem kidsC_le (ks : List (List Value)) (k : Nat) : (kidsC ks k).length ≤ (kidsC ks ks.length).length := by
  unfold kidsC
  rw [List.take_length]
  conv => rhs; rw [← List.take_append_drop k ks]
  rw [List.map_append, List.flatten_append, List.length_append]
  omega

end Go.Proofs.YtacfglopionkfaaGreatDoor
/- The contract of write at an operator. -/
namespace Go.Proofs.YtacfglopionkfaaGreatDoor
open Go.RowKit

theorem cell_kept {W0 w : World} (hb : Below W0.heap.size W0 w) {b j : Nat} {u : Value} (h : W0.cell? ⟨b, j, none⟩ = some u) : w.cell? ⟨b, j, none⟩ = some u := by
  have hlt : b < W0.heap.size := by
    rcases Nat.lt_or_ge b W0.heap.size with h' | h'
    · exact h'
    · simp [World.cell?, Array.getElem?_eq_none h'] at h
  rw [World.cell?_of_block (w := W0) (hb.block b hlt)]
  exact h
theorem tl_emp : sEmpty.toList.isEmpty = true := by simp [sEmpty, ByteArray.toList_eq]
set_option maxRecDepth 100000 in
set_option maxHeartbeats 1000000 in
theorem write_op (W0 : World) (b blk : Nat) (op nm : ByteArray) (nv p q : Int) (ks : List (List Value)) (hks : KidsAt W0 b blk ks) (hm : ks.length ≤ 3) (hm1 : 1 ≤ ks.length)
    (h1 : op ≠ sNum) (h2 : op ≠ sName) :
    Writes W0 b (.agg #[.string op, .int .i64 nv, .string nm, .int .i64 p, .int .i64 q, .slice (some ⟨blk, 0, none⟩) ks.length ks.length]) (opCells op nm ks) := by
  intro bs w hb hbd hlen
  have hsz := hb.size
  have HBd := Lib.hid hbd
  have HB := Lib.hid hb
  have HL := Lib.hid hlen
  have HK := Lib.hid hks
  have e1 : (op.toList == [110, 117, 109]) = false := tl_no h1
  have e2 : (op.toList == [110, 97, 109, 101]) = false := tl_no h2
  obtain ⟨m, hmm⟩ : ∃ m, ks.length = m := ⟨_, rfl⟩
  rw [hmm] at hm hm1
  have HM := Lib.hid hmm
  rw [hmm]
  clear hbd hb hlen hks h1 h2 hmm
  have HB1 : Hid (∀ o, Below W0.heap.size W0 (w.alloc o)) := Lib.hid (fun o => HB.out.alloc hsz o)
  have HBd1 : Hid (∀ o, IsBd W0.heap.size b bs (w.alloc o)) := Lib.hid (fun o => isBd_below HBd.out ((Below.refl _ _).alloc (Nat.le_refl _) _))
  have HL1 : Hid (bs.length + (⟨#[40]⟩ ++ op : ByteArray).size ≤ 140737488355328) := Lib.hid (by
    have := HL.out
    unfold opCells at this
    simp only [List.length_append, Lib.strCells_length] at this
    omega)
  have hs1 : 1 + op.size ≤ 9223372036854775807 := by
    have := HL1.out
    have e : (⟨#[40]⟩ ++ op : ByteArray).size = 1 + op.size := by rw [ByteArray.size_append]; rfl
    omega
  have hs1' : op.size + 1 ≤ 9223372036854775807 := by omega
  by_cases hn : nm = sEmpty
  · subst hn
    have hne : sEmpty.toList.isEmpty = true := tl_emp
    go_enter Tryz.func85, Tryz.ntmps85
    go_wp2_with fail
    have hbw := bd_lt HBd.out
    have hcall := bd_strW W0.heap.size b bs (⟨#[40]⟩ ++ op) (w.alloc (.cells #[.string op, .int .i64 nv, .string sEmpty, .int .i64 p, .int .i64 q, .slice (some ⟨blk, 0, none⟩) m m] 30)) (HBd1.out _) HL1.out (HB1.out _).size
    refine hcall.mono ?_
    clear hcall
    rintro e w1 ⟨rfl, ⟨hd1, ho1⟩, hb1⟩
    have HP1 : Hid (w1.heap[w.heap.size]? = some (.cells #[.string op, .int .i64 nv, .string sEmpty, .int .i64 p, .int .i64 q, .slice (some ⟨blk, 0, none⟩) m m] 30)) := Lib.hid (ho1 _ _ _ _ (heap_alloc_last w _) (by decide) (by omega))
    have HD1 : Hid (IsBd W0.heap.size b (bs ++ Lib.strCells (⟨#[40]⟩ ++ op)) w1) := Lib.hid (Or.inr hd1)
    have HO1 : Hid (Oth b w w1) := Lib.hid ((Oth.below ((Below.refl _ _).alloc (Nat.le_refl _) _)).trans ho1)
    have HBb1 : Hid (Below W0.heap.size W0 w1) := Lib.hid ((HB1.out _).trans hb1)
    obtain ⟨⟨c0, c1, c2, c3, c4, c5⟩, _⟩ := six_facts HP1.out
    clear hd1 ho1 hb1
    go_wp2_with fail
    clear c0 c1 c2 c3 c4 c5
    have HPre : Hid (opCells op sEmpty ks = Lib.strCells (⟨#[40]⟩ ++ op) ++ kidsC ks m ++ [.int .u8 41]) := Lib.hid (by
      unfold opCells kidsC
      rw [if_pos rfl, ← HM.out, List.take_length]
      all_goals simp)
    have HLen := HL.out
    rw [HPre.out] at HLen
    simp only [List.length_append, List.length_singleton] at HLen
    have HLn := Lib.hid HLen
    clear HLen
    obtain ⟨pc, hpc⟩ : ∃ pc, pc = Lib.strCells (⟨#[40]⟩ ++ op) := ⟨_, rfl⟩
    have HDp : Hid (IsBd W0.heap.size b (bs ++ pc) w1) := Lib.hid (by rw [hpc]; have := HD1.out; simpa using this)
    have HLp : Hid (∀ k, k < m → bs.length + pc.length + (kidsC ks (k + 1)).length + 1 ≤ 140737488355328) := Lib.hid (fun k hk => by
      have h1 := kidsC_le ks (k + 1)
      rw [HM.out] at h1
      have := HLn.out
      rw [hpc]
      (try simp only [List.length_append] at this)
      (try simp only [List.length_append])
      omega)
    have HLe : Hid (bs.length + pc.length + (kidsC ks m).length + 1 ≤ 140737488355328) := Lib.hid (by
      have := HLn.out
      rw [hpc]
      (try simp only [List.length_append] at this)
      (try simp only [List.length_append])
      omega)
    have HRes : Hid (bs ++ opCells op sEmpty ks = bs ++ pc ++ kidsC ks m ++ [.int .u8 41]) := Lib.hid (by rw [HPre.out, hpc]; simp)
    clear hpc HPre HLn
    go_loopg [5, 37] m (fun g _ s37 wr => ∃ k : Nat, g = m - k ∧ k ≤ m ∧ s37 = .int .i64 k ∧ Aside (IsBd W0.heap.size b (bs ++ pc ++ kidsC ks k) wr) ∧ Aside (Below W0.heap.size W0 wr) ∧ Aside (Oth b w wr))
    case atStart => exact ⟨0, by omega, by omega, rfl, (by show IsBd W0.heap.size b _ _; have := HDp.out; simpa [kidsC] using this), HBb1.out, HO1.out⟩
    case round =>
      obtain ⟨k, hg, hk, rfl, A1, A2, A3⟩ := hrel
      have HG := Lib.hid hg
      clear hg
      by_cases hlt : k < m
      · have hki : (k : Int) < (m : Int) := by omega
        obtain ⟨o1, v1, n1, p1, q1, kv1, ⟨x0, x1, x2, x3, x4, x5⟩, ⟨ka, km, rfl⟩, hwr⟩ := HK.out k (by rw [HM.out]; exact hlt)
        have HW := Lib.hid hwr
        have A1o := A1.out
        have A2o := A2.out
        have A3o := A3.out
        have hbr := A2o.size
        have HIs := Lib.hid A1o
        have HBe := Lib.hid A2o
        have HOt := Lib.hid A3o
        clear A1 A2 A3 A1o A2o A3o hwr
        have hc : ∀ j u, W0.cell? ⟨blk, j, none⟩ = some u → wr.cell? ⟨blk, j, none⟩ = some u := fun j u h => cell_kept HBe.out h
        have y0 := hc _ _ x0
        have y1 := hc _ _ x1
        have y2 := hc _ _ x2
        have y3 := hc _ _ x3
        have y4 := hc _ _ x4
        have y5 := hc _ _ x5
        clear hc x0 x1 x2 x3 x4 x5
        have hbl := bd_lt HIs.out
        go_wp2_with fail
        have hA : Hid (∀ o, Below W0.heap.size W0 (wr.alloc o)) := Lib.hid (fun o => HBe.out.alloc hbr o)
        have hlk := HLp.out k hlt
        rw [kidsC_succ ks k (by rw [HM.out]; exact hlt)] at hlk
        simp only [List.length_append, List.length_cons] at hlk
        have HLk := Lib.hid hlk
        clear hlk
        have hcall := bd_byteW W0.heap.size b (bs ++ pc ++ kidsC ks k) 32 (wr.alloc (.cells #[.string o1, .int .i64 v1, .string n1, .int .i64 p1, .int .i64 q1, .slice ka km km] 30)) (isBd_below HIs.out ((Below.refl _ _).alloc (Nat.le_refl _) _)) (by simp only [List.length_append]; have := HLk.out; omega) (hA.out _).size
        refine hcall.mono ?_
        clear hcall
        rintro e w3 ⟨rfl, ⟨hd3, ho3⟩, hb3⟩
        have HP3 : Hid (w3.heap[wr.heap.size]? = some (.cells #[.string o1, .int .i64 v1, .string n1, .int .i64 p1, .int .i64 q1, .slice ka km km] 30)) := Lib.hid (ho3 _ _ _ _ (heap_alloc_last wr _) (by decide) (by omega))
        have HD3 : Hid (IsBd W0.heap.size b (bs ++ pc ++ kidsC ks k ++ [.int .u8 32]) w3) := Lib.hid (Or.inr hd3)
        have HO3 : Hid (Oth b w w3) := Lib.hid ((HOt.out.trans (Oth.below ((Below.refl _ _).alloc (Nat.le_refl _) _))).trans ho3)
        have HB3 : Hid (Below W0.heap.size W0 w3) := Lib.hid ((hA.out _).trans hb3)
        clear hd3 ho3 hb3 y0 y1 y2 y3 y4 y5
        obtain ⟨⟨z0, z1, z2, z3, z4, z5⟩, _⟩ := six_facts HP3.out
        go_wp2_with fail
        refine (HW.out (bs ++ pc ++ kidsC ks k ++ [.int .u8 32]) w3 HB3.out HD3.out (by simp only [List.length_append, List.length_singleton]; have := HLk.out; omega)).mono ?_
        rintro e w4 ⟨rfl, ⟨hd4, ho4⟩, hb4⟩
        have HD4 : Hid (IsBd W0.heap.size b (bs ++ pc ++ kidsC ks (k + 1)) w4) := Lib.hid (Or.inr (by rw [kidsC_succ ks k (by rw [HM.out]; exact hlt)]; simpa using hd4))
        have HO4 : Hid (Oth b w w4) := Lib.hid (HO3.out.trans ho4)
        have HB4 := Lib.hid hb4
        clear hd4 ho4 hb4 z0 z1 z2 z3 z4 z5
        go_wp2_with fail
        go_roundg (m - (k + 1))
        case measure => have := HG.out; omega
        case rel => exact ⟨k + 1, rfl, by omega, by go_num, HD4.out, HB4.out, HO4.out⟩
      · obtain rfl : k = m := by omega
        have HIs := Lib.hid A1.out
        have HBe := Lib.hid A2.out
        have HOt := Lib.hid A3.out
        clear A1 A2 A3
        have hbr := HBe.out.size
        go_wp2_with fail
        refine (bd_byteW W0.heap.size b (bs ++ pc ++ kidsC ks k) 41 wr HIs.out (by simp only [List.length_append]; have := HLe.out; omega) hbr).mono ?_
        rintro e w3 ⟨rfl, ⟨hd3, ho3⟩, hb3⟩
        go_wp2_with fail
        go_end0
        exact ⟨rfl, ⟨by rw [HRes.out]; exact hd3, HOt.out.trans ho3⟩, HBe.out.trans hb3⟩
  · have hne : nm.toList.isEmpty = false := by have := tl_no (l := []) hn; simpa using this
    have hs2 : 1 + nm.size ≤ 9223372036854775807 := by
      have := HL.out
      unfold opCells at this
      rw [if_neg hn] at this
      simp only [List.length_append, Lib.strCells_length] at this
      have e : (⟨#[32]⟩ ++ nm : ByteArray).size = 1 + nm.size := by rw [ByteArray.size_append]; rfl
      omega
    have hs2' : nm.size + 1 ≤ 9223372036854775807 := by omega
    go_enter Tryz.func85, Tryz.ntmps85
    go_wp2_with fail
    have hbw := bd_lt HBd.out
    have hcall := bd_strW W0.heap.size b bs (⟨#[40]⟩ ++ op) (w.alloc (.cells #[.string op, .int .i64 nv, .string nm, .int .i64 p, .int .i64 q, .slice (some ⟨blk, 0, none⟩) m m] 30)) (HBd1.out _) HL1.out (HB1.out _).size
    refine hcall.mono ?_
    clear hcall
    rintro e w1 ⟨rfl, ⟨hd1, ho1⟩, hb1⟩
    have HP1 : Hid (w1.heap[w.heap.size]? = some (.cells #[.string op, .int .i64 nv, .string nm, .int .i64 p, .int .i64 q, .slice (some ⟨blk, 0, none⟩) m m] 30)) := Lib.hid (ho1 _ _ _ _ (heap_alloc_last w _) (by decide) (by omega))
    have HD1 : Hid (IsBd W0.heap.size b (bs ++ Lib.strCells (⟨#[40]⟩ ++ op)) w1) := Lib.hid (Or.inr hd1)
    have HO1 : Hid (Oth b w w1) := Lib.hid ((Oth.below ((Below.refl _ _).alloc (Nat.le_refl _) _)).trans ho1)
    have HBb1 : Hid (Below W0.heap.size W0 w1) := Lib.hid ((HB1.out _).trans hb1)
    obtain ⟨⟨c0, c1, c2, c3, c4, c5⟩, _⟩ := six_facts HP1.out
    clear hd1 ho1 hb1
    go_wp2_with fail
    have HL2 : Hid ((bs ++ Lib.strCells (⟨#[40]⟩ ++ op)).length + (⟨#[32]⟩ ++ nm : ByteArray).size ≤ 140737488355328) := Lib.hid (by
      have := HL.out
      unfold opCells at this
      rw [if_neg hn] at this
      simp only [List.length_append, Lib.strCells_length] at this ⊢
      omega)
    have hcall := bd_strW W0.heap.size b (bs ++ Lib.strCells (⟨#[40]⟩ ++ op)) (⟨#[32]⟩ ++ nm) w1 HD1.out HL2.out HBb1.out.size
    refine hcall.mono ?_
    clear hcall
    rintro e w2 ⟨rfl, ⟨hd2, ho2⟩, hb2⟩
    have HP2 : Hid (w2.heap[w.heap.size]? = some (.cells #[.string op, .int .i64 nv, .string nm, .int .i64 p, .int .i64 q, .slice (some ⟨blk, 0, none⟩) m m] 30)) := Lib.hid (ho2 _ _ _ _ HP1.out (by decide) (by omega))
    have HD2 : Hid (IsBd W0.heap.size b (bs ++ Lib.strCells (⟨#[40]⟩ ++ op) ++ Lib.strCells (⟨#[32]⟩ ++ nm)) w2) := Lib.hid (Or.inr hd2)
    have HO2 : Hid (Oth b w w2) := Lib.hid (HO1.out.trans ho2)
    have HBb2 : Hid (Below W0.heap.size W0 w2) := Lib.hid (HBb1.out.trans hb2)
    clear c0 c1 c2 c3 c4 c5 hd2 ho2 hb2
    obtain ⟨⟨c0, c1, c2, c3, c4, c5⟩, _⟩ := six_facts HP2.out
    go_wp2_with fail
    clear c0 c1 c2 c3 c4 c5
    have HPre : Hid (opCells op nm ks = (Lib.strCells (⟨#[40]⟩ ++ op) ++ Lib.strCells (⟨#[32]⟩ ++ nm)) ++ kidsC ks m ++ [.int .u8 41]) := Lib.hid (by
      unfold opCells kidsC
      rw [if_neg hn, ← HM.out, List.take_length]
      all_goals simp)
    have HLen := HL.out
    rw [HPre.out] at HLen
    simp only [List.length_append, List.length_singleton] at HLen
    have HLn := Lib.hid HLen
    clear HLen
    obtain ⟨pc, hpc⟩ : ∃ pc, pc = (Lib.strCells (⟨#[40]⟩ ++ op) ++ Lib.strCells (⟨#[32]⟩ ++ nm)) := ⟨_, rfl⟩
    have HDp : Hid (IsBd W0.heap.size b (bs ++ pc) w2) := Lib.hid (by rw [hpc]; have := HD2.out; simpa using this)
    have HLp : Hid (∀ k, k < m → bs.length + pc.length + (kidsC ks (k + 1)).length + 1 ≤ 140737488355328) := Lib.hid (fun k hk => by
      have h1 := kidsC_le ks (k + 1)
      rw [HM.out] at h1
      have := HLn.out
      rw [hpc]
      (try simp only [List.length_append] at this)
      (try simp only [List.length_append])
      omega)
    have HLe : Hid (bs.length + pc.length + (kidsC ks m).length + 1 ≤ 140737488355328) := Lib.hid (by
      have := HLn.out
      rw [hpc]
      (try simp only [List.length_append] at this)
      (try simp only [List.length_append])
      omega)
    have HRes : Hid (bs ++ opCells op nm ks = bs ++ pc ++ kidsC ks m ++ [.int .u8 41]) := Lib.hid (by rw [HPre.out, hpc]; simp)
    clear hpc HPre HLn
    go_loopg [5, 37] m (fun g _ s37 wr => ∃ k : Nat, g = m - k ∧ k ≤ m ∧ s37 = .int .i64 k ∧ Aside (IsBd W0.heap.size b (bs ++ pc ++ kidsC ks k) wr) ∧ Aside (Below W0.heap.size W0 wr) ∧ Aside (Oth b w wr))
    case atStart => exact ⟨0, by omega, by omega, rfl, (by show IsBd W0.heap.size b _ _; have := HDp.out; simpa [kidsC] using this), HBb2.out, HO2.out⟩
    case round =>
      obtain ⟨k, hg, hk, rfl, A1, A2, A3⟩ := hrel
      have HG := Lib.hid hg
      clear hg
      by_cases hlt : k < m
      · have hki : (k : Int) < (m : Int) := by omega
        obtain ⟨o1, v1, n1, p1, q1, kv1, ⟨x0, x1, x2, x3, x4, x5⟩, ⟨ka, km, rfl⟩, hwr⟩ := HK.out k (by rw [HM.out]; exact hlt)
        have HW := Lib.hid hwr
        have A1o := A1.out
        have A2o := A2.out
        have A3o := A3.out
        have hbr := A2o.size
        have HIs := Lib.hid A1o
        have HBe := Lib.hid A2o
        have HOt := Lib.hid A3o
        clear A1 A2 A3 A1o A2o A3o hwr
        have hc : ∀ j u, W0.cell? ⟨blk, j, none⟩ = some u → wr.cell? ⟨blk, j, none⟩ = some u := fun j u h => cell_kept HBe.out h
        have y0 := hc _ _ x0
        have y1 := hc _ _ x1
        have y2 := hc _ _ x2
        have y3 := hc _ _ x3
        have y4 := hc _ _ x4
        have y5 := hc _ _ x5
        clear hc x0 x1 x2 x3 x4 x5
        have hbl := bd_lt HIs.out
        go_wp2_with fail
        have hA : Hid (∀ o, Below W0.heap.size W0 (wr.alloc o)) := Lib.hid (fun o => HBe.out.alloc hbr o)
        have hlk := HLp.out k hlt
        rw [kidsC_succ ks k (by rw [HM.out]; exact hlt)] at hlk
        simp only [List.length_append, List.length_cons] at hlk
        have HLk := Lib.hid hlk
        clear hlk
        have hcall := bd_byteW W0.heap.size b (bs ++ pc ++ kidsC ks k) 32 (wr.alloc (.cells #[.string o1, .int .i64 v1, .string n1, .int .i64 p1, .int .i64 q1, .slice ka km km] 30)) (isBd_below HIs.out ((Below.refl _ _).alloc (Nat.le_refl _) _)) (by simp only [List.length_append]; have := HLk.out; omega) (hA.out _).size
        refine hcall.mono ?_
        clear hcall
        rintro e w3 ⟨rfl, ⟨hd3, ho3⟩, hb3⟩
        have HP3 : Hid (w3.heap[wr.heap.size]? = some (.cells #[.string o1, .int .i64 v1, .string n1, .int .i64 p1, .int .i64 q1, .slice ka km km] 30)) := Lib.hid (ho3 _ _ _ _ (heap_alloc_last wr _) (by decide) (by omega))
        have HD3 : Hid (IsBd W0.heap.size b (bs ++ pc ++ kidsC ks k ++ [.int .u8 32]) w3) := Lib.hid (Or.inr hd3)
        have HO3 : Hid (Oth b w w3) := Lib.hid ((HOt.out.trans (Oth.below ((Below.refl _ _).alloc (Nat.le_refl _) _))).trans ho3)
        have HB3 : Hid (Below W0.heap.size W0 w3) := Lib.hid ((hA.out _).trans hb3)
        clear hd3 ho3 hb3 y0 y1 y2 y3 y4 y5
        obtain ⟨⟨z0, z1, z2, z3, z4, z5⟩, _⟩ := six_facts HP3.out
        go_wp2_with fail
        refine (HW.out (bs ++ pc ++ kidsC ks k ++ [.int .u8 32]) w3 HB3.out HD3.out (by simp only [List.length_append, List.length_singleton]; have := HLk.out; omega)).mono ?_
        rintro e w4 ⟨rfl, ⟨hd4, ho4⟩, hb4⟩
        have HD4 : Hid (IsBd W0.heap.size b (bs ++ pc ++ kidsC ks (k + 1)) w4) := Lib.hid (Or.inr (by rw [kidsC_succ ks k (by rw [HM.out]; exact hlt)]; simpa using hd4))
        have HO4 : Hid (Oth b w w4) := Lib.hid (HO3.out.trans ho4)
        have HB4 := Lib.hid hb4
        clear hd4 ho4 hb4 z0 z1 z2 z3 z4 z5
        go_wp2_with fail
        go_roundg (m - (k + 1))
        case measure => have := HG.out; omega
        case rel => exact ⟨k + 1, rfl, by omega, by go_num, HD4.out, HB4.out, HO4.out⟩
      · obtain rfl : k = m := by omega
        have HIs := Lib.hid A1.out
        have HBe := Lib.hid A2.out
        have HOt := Lib.hid A3.out
        clear A1 A2 A3
        have hbr := HBe.out.size
        go_wp2_with fail
        refine (bd_byteW W0.heap.size b (bs ++ pc ++ kidsC ks k) 41 wr HIs.out (by simp only [List.length_append]; have := HLe.out; omega) hbr).mono ?_
        rintro e w3 ⟨rfl, ⟨hd3, ho3⟩, hb3⟩
        go_wp2_with fail
        go_end0
        exact ⟨rfl, ⟨by rw [HRes.out]; exact hd3, HOt.out.trans ho3⟩, HBe.out.trans hb3⟩
end Go.Proofs.YtacfglopionkfaaGreatDoor
