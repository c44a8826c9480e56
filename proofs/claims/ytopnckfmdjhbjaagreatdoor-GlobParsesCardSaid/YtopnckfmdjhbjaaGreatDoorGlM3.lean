/- awake: the pattern that every program must know. -/
import Derived.Test.YtopnckfmdjhbjaaGreatDoorGlM1
import Derived.Test.YtopnckfmdjhbjaaGreatDoorShelf
import Derived.Test.YtopnckfmdjhbjaaGreatDoorGlM2
import Derived.Test.YtopnckfmdjhbjaaGreatDoorGlRd
import Derived.Laws.OwnMore
import Derived.Deep.OwnRows
import Derived.Lib.SlBytesConst
/- The contract of set.Text (gen_text.py). -/
namespace Go.Proofs.YtopnckfmdjhbjaaGreatDoor
open Go.RowKit

def ltP (n c : Nat) : Bool := decide (c < n)
def butP (p q : Nat → Bool) (c : Nat) : Bool := p c && !q c
def strV (x : List UInt8) : Value := .string ⟨x.toArray⟩
theorem string_row : (Tryz.prog.info? 9).map (fun i => (i.zero, i.size, i.bytes)) = some (some (.string ⟨#[]⟩), 1, 16) := by kernel_rfl
/-- Join over a row of the call's own. -/
theorem join_own {B : Nat} {v : Value} {dn : List (List UInt8)} (sep : ByteArray) (w : World) (h : w.ownsRow B 9 1 v dn.length (dn.map strV)) (hN : dn.length ≤ 1048576) (hlen : (Lib.join dn sep.data.toList).length ≤ 140737488355328) :
  Calls Tryz.prog 29 #[v, .string sep] w fun e w' => e = .returned (.string ⟨(Lib.join dn sep.data.toList).toArray⟩) ∧ Below w.heap.size w w' := by
 obtain ⟨_, ⟨rfl, h0⟩ | ⟨g, cap, cur, rfl, _, hg, hnc, _, hcz, htk⟩⟩ := h
 ·have : dn = [] := List.length_eq_zero_iff.1 h0
  subst this
  refine (Tryz.strings_Join_none none 0 sep w).mono fun e w' h => ?_
  obtain ⟨rfl, rfl⟩ := h
  exact ⟨rfl, Below.refl _ _⟩
 ·have hm : (dn.map fun x => (⟨x.toArray⟩ : ByteArray)).map (·.data.toList) = dn := by
   rw [List.map_map]
   have : ((fun b : ByteArray => b.data.toList) ∘ fun x : List UInt8 => (⟨x.toArray⟩ : ByteArray)) = id := by funext x; simp
   rw [this, List.map_id]
  have := Tryz.strings_Join g 0 cap (dn.map fun x => (⟨x.toArray⟩ : ByteArray)) sep w (fun j x hx => ?_) (lt_blkB hg) (by simp; omega) (by simp; omega) (by rw [hm]; exact hlen)
  ·rw [hm, List.length_map] at this
   exact this
  ·rw [Lib.cell_of_heap hg, Nat.zero_add]
   rw [List.getElem?_map, Option.map_eq_some_iff] at hx
   obtain ⟨y, hy, rfl⟩ := hx
   have hj : j < dn.length := (List.getElem?_eq_some_iff.1 hy).1
   have h1 := congrArg (fun l => l[j]?) htk
   simp only [List.getElem?_map, hy, Option.map_some] at h1
   rw [List.getElem?_take, if_pos (by omega)] at h1
   simpa [strV] using h1

theorem set_ne (q : Nat → Bool) (c : Nat) (hc : c < 256) (h : q c = true) (w : World) :
  (Op.equalIn 10000 53 (.agg #[.int .u64 (sw (q) 0 : Nat), .int .u64 (sw (q) 1 : Nat), .int .u64 (sw (q) 2 : Nat), .int .u64 (sw (q) 3 : Nat)]) (.agg #[.int .u64 0, .int .u64 0, .int .u64 0, .int .u64 0])).run Tryz.prog w = .ok false w := by
 rw [eq_arr 9998]
 congr 1
 cases hb : (((sw q 0 : Nat) : Int) == 0) && ((((sw q 1 : Nat) : Int) == 0) && ((((sw q 2 : Nat) : Int) == 0) && (((sw q 3 : Nat) : Int) == 0))) with
 | false => rfl
 | true =>
  exfalso
  simp only [Bool.and_eq_true, beq_iff_eq] at hb
  obtain ⟨h0, h1, h2, h3⟩ := hb
  have hz : ∀ i, i < 4 → sw q i = 0 := fun i hi => by
   rcases (by omega : i = 0 ∨ i = 1 ∨ i = 2 ∨ i = 3) with rfl | rfl | rfl | rfl <;> omega
  have := sw_zero_of q (c / 64) (hz _ (by omega)) (c % 64) (Nat.mod_lt _ (by decide))
  rw [Nat.div_add_mod, h] at this
  cases this

/-- The loop's state: what is done, what is left. -/
structure TxI (w : World) (p : Nat → Bool) (k : Nat) (dn : List (List UInt8)) (v : Value) (X : World) : Prop where
 hk : k ≤ 256
 spl : dn ++ runsN p 257 k = runs p
 bel : Below w.heap.size w X
 blk : X.heap[w.heap.size]? = some (.cells #[.int .u64 (sw (fromK p k) 0 : Nat), .int .u64 (sw (fromK p k) 1 : Nat), .int .u64 (sw (fromK p k) 2 : Nat), .int .u64 (sw (fromK p k) 3 : Nat)] 53 (0, 0))
 own : X.ownsRow w.heap.size 9 1 v dn.length (dn.map strV)
/-- The state within the last region: the set is stored (4). -/
structure TxS (w : World) (p : Nat → Bool) (k e : Nat) (dn : List (List UInt8)) (v : Value) (d4 : Bool) (X : World) : Prop where
 bel : Below w.heap.size w X
 old : d4 = false → X.heap[w.heap.size]? = some (.cells #[.int .u64 (sw (fromK p k) 0 : Nat), .int .u64 (sw (fromK p k) 1 : Nat), .int .u64 (sw (fromK p k) 2 : Nat), .int .u64 (sw (fromK p k) 3 : Nat)] 53 (0, 0))
 new : d4 = true → X.heap[w.heap.size]? = some (.cells #[.int .u64 (sw (fromK p e) 0 : Nat), .int .u64 (sw (fromK p e) 1 : Nat), .int .u64 (sw (fromK p e) 2 : Nat), .int .u64 (sw (fromK p e) 3 : Nat)] 53 (0, 0))
 own : X.ownsRow w.heap.size 9 1 v dn.length (dn.map strV)
theorem own_shapeT {w : World} {base : Nat} {e : TypeId} {s : Nat} {v : Value} {n : Nat} {xs : List Value} (h : w.ownsRow base e s v n xs) : ∃ a0 cap, v = .slice a0 n cap := by
 obtain ⟨h1, ⟨rfl, rfl⟩ | ⟨g, cap, cur, rfl, _⟩⟩ := h
 ·exact ⟨none, 0, rfl⟩
 ·exact ⟨_, cap, rfl⟩
theorem own_set4 {X : World} {B : Nat} {e T : TypeId} {s : Nat} {v : Value} {n : Nat} {xs : List Value} {b : Nat} {a0 a1 a2 a3 : Value} (hown : X.ownsRow B e s v n xs) (hb : X.heap[b]? = some (.cells #[a0, a1, a2, a3] T (0, 0))) (hT : T ≠ e) (y0 y1 y2 y3 : Value) :
  ((((X.setCell ⟨b, 0, none⟩ y0).setCell ⟨b, 1, none⟩ y1).setCell ⟨b, 2, none⟩ y2).setCell ⟨b, 3, none⟩ y3).ownsRow B e s v n xs := by
 have st : ∀ (Z : World) (cs : Array Value) (i : Nat) (y : Value), Z.heap[b]? = some (.cells cs T (0, 0)) → (Z.setCell ⟨b, i, none⟩ y).heap[b]? = some (.cells (cs.setIfInBounds i y) T (0, 0)) := fun Z cs i y hx => by
  show (Z.heap.modify b _)[b]? = _
  rw [Array.getElem?_modify, if_pos rfl, hx]
  rfl
 have h1 := st _ _ 0 y0 hb
 have h2 := st _ _ 1 y1 h1
 have h3 := st _ _ 2 y2 h2
 exact own_set (own_set (own_set (own_set hown hb hT 0 y0) h1 hT 1 y1) h2 hT 2 y2) h3 hT 3 y3
theorem run_one (lo e : Nat) (h : ¬ lo + 1 < e) : (⟨(hex2 lo).toArray⟩ : ByteArray) = ⟨(runT lo e).toArray⟩ := by unfold runT; rw [if_neg h, List.append_nil]
theorem run_two (lo e : Nat) (h : lo + 1 < e) : (⟨(hex2 lo).toArray⟩ : ByteArray) ++ ((⟨#[45]⟩ : ByteArray) ++ ⟨(hex2 (e - 1)).toArray⟩) = ⟨(runT lo e).toArray⟩ := by
 unfold runT
 rw [if_pos h]
 apply ByteArray.ext
 simp [hex2]

set_option maxRecDepth 100000 in
set_option maxHeartbeats 16000000 in
theorem text_any (p : Nat → Bool) (w : World) (hT : TZ w) (hD : DB w) :
  Calls Tryz.prog 45 #[SV p] w fun e w' => e = .returned (.string (textS p)) ∧ Below w.heap.size w w' := by
 obtain ⟨i1, ki, kz0, kz1, kz2⟩ := info_parts string_row
 have HT := Lib.hid hT
 have HD := Lib.hid hD
 have hrl := runs_len p
 have HRL := Lib.hid hrl
 have e0 : Hid (SV p = SV (fromK p 0)) := Lib.hid (SV_congr fun c _ => by unfold fromK; simp)
 rw [e0.out]
 clear hT hD hrl
 unfold SV
 go_enter Tryz.func45, Tryz.ntmps45
 go_wp2_with fail
 go_loopw [3] (fun v X => ∃ k dn, TxI w p k dn v X) (fun v _ => match v with | .slice _ n _ => 257 - n | _ => 0)
 case atStart => exact ⟨0, [], by omega, rfl, (Below.refl _ _).alloc (Nat.le_refl _) _, alloc_last w _, World.ownsRow_nil _ _ _ _⟩
 case round =>
  obtain ⟨k, dn, hI⟩ := hrel
  obtain ⟨⟨c0, c1, c2, c3⟩, _, hbz⟩ := cells4 hI.blk
  have HI := Lib.hid hI
  obtain ⟨a0, cap0, hv0⟩ := own_shapeT hI.own
  have hdl : dn.length ≤ 256 := by have h1 := congrArg List.length hI.spl; rw [List.length_append] at h1; have := HRL.out.1; omega
  clear hI
  subst hv0
  by_cases hl : fst p k < 256
  ·have hge := fst_ge p k
   have hit := fst_hit p k HI.out.hk hl
   have hgt := end_gt p _ hl hit
   have hle := fst_le (notP p) (fst p k) (by omega)
   have HNE := set_ne (fromK p k) (fst p k) hl (by unfold fromK; rw [hit]; simpa using hge)
   have HF1 : Hid (fst (fromK p k) 0 = fst p k) := Lib.hid (fst_from p k HI.out.hk)
   have HF2 : Hid (fst (butP (notP (fromK p k)) (ltP (fst p k))) 0 = fst (notP p) (fst p k)) := Lib.hid (fst_end p k (fst p k) hge (by omega))
   have HST : Hid (runsN p 257 k = runT (fst p k) (fst (notP p) (fst p k)) :: runsN p 257 (fst (notP p) (fst p k))) := Lib.hid (runsN_step p k HI.out.hk hl)
   have HSN : Hid (SV (butP (fromK p k) (ltP (fst (notP p) (fst p k)))) = SV (fromK p (fst (notP p) (fst p k)))) := Lib.hid (SV_congr (from_next p k _ (by omega)))
   have HL1 : ∀ X, TZ X → Hid (Calls Tryz.prog 65 #[.agg #[.int .u64 (sw (fromK p k) 0 : Nat), .int .u64 (sw (fromK p k) 1 : Nat), .int .u64 (sw (fromK p k) 2 : Nat), .int .u64 (sw (fromK p k) 3 : Nat)]] X fun e w' => e = .returned (.int .i64 (fst p k : Nat)) ∧ Below X.heap.size X w') := fun X hX => Lib.hid (by have := least_any (fromK p k) X hX; rw [HF1.out] at this; exact this)
   have HL2 : ∀ X, TZ X → Hid (Calls Tryz.prog 65 #[.agg #[.int .u64 (sw (butP (notP (fromK p k)) (ltP (fst p k))) 0 : Nat), .int .u64 (sw (butP (notP (fromK p k)) (ltP (fst p k))) 1 : Nat), .int .u64 (sw (butP (notP (fromK p k)) (ltP (fst p k))) 2 : Nat), .int .u64 (sw (butP (notP (fromK p k)) (ltP (fst p k))) 3 : Nat)]] X fun e w' => e = .returned (.int .i64 (fst (notP p) (fst p k) : Nat)) ∧ Below X.heap.size X w') := fun X hX => Lib.hid (by have := least_any (butP (notP (fromK p k)) (ltP (fst p k))) X hX; rw [HF2.out] at this; exact this)
   have HNT : ∀ X, Hid (Calls Tryz.prog 67 #[.agg #[.int .u64 (sw (fromK p k) 0 : Nat), .int .u64 (sw (fromK p k) 1 : Nat), .int .u64 (sw (fromK p k) 2 : Nat), .int .u64 (sw (fromK p k) 3 : Nat)]] X fun e w' => e = .returned (.agg #[.int .u64 (sw (notP (fromK p k)) 0 : Nat), .int .u64 (sw (notP (fromK p k)) 1 : Nat), .int .u64 (sw (notP (fromK p k)) 2 : Nat), .int .u64 (sw (notP (fromK p k)) 3 : Nat)]) ∧ Below X.heap.size X w') := fun X => Lib.hid (not_any (fromK p k) X)
   have HB1 : ∀ X, Hid (Calls Tryz.prog 68 #[.int .i64 (fst p k : Nat)] X fun e w' => e = .returned (.agg #[.int .u64 (sw (ltP (fst p k)) 0 : Nat), .int .u64 (sw (ltP (fst p k)) 1 : Nat), .int .u64 (sw (ltP (fst p k)) 2 : Nat), .int .u64 (sw (ltP (fst p k)) 3 : Nat)]) ∧ Below X.heap.size X w') := fun X => Lib.hid (below_any (fst p k) (by omega) X)
   have HB2 : ∀ X, Hid (Calls Tryz.prog 68 #[.int .i64 (fst (notP p) (fst p k) : Nat)] X fun e w' => e = .returned (.agg #[.int .u64 (sw (ltP (fst (notP p) (fst p k))) 0 : Nat), .int .u64 (sw (ltP (fst (notP p) (fst p k))) 1 : Nat), .int .u64 (sw (ltP (fst (notP p) (fst p k))) 2 : Nat), .int .u64 (sw (ltP (fst (notP p) (fst p k))) 3 : Nat)]) ∧ Below X.heap.size X w') := fun X => Lib.hid (below_any (fst (notP p) (fst p k)) hle X)
   have HW1 : ∀ X, Hid (Calls Tryz.prog 66 #[.agg #[.int .u64 (sw (notP (fromK p k)) 0 : Nat), .int .u64 (sw (notP (fromK p k)) 1 : Nat), .int .u64 (sw (notP (fromK p k)) 2 : Nat), .int .u64 (sw (notP (fromK p k)) 3 : Nat)], .agg #[.int .u64 (sw (ltP (fst p k)) 0 : Nat), .int .u64 (sw (ltP (fst p k)) 1 : Nat), .int .u64 (sw (ltP (fst p k)) 2 : Nat), .int .u64 (sw (ltP (fst p k)) 3 : Nat)]] X fun e w' => e = .returned (.agg #[.int .u64 (sw (butP (notP (fromK p k)) (ltP (fst p k))) 0 : Nat), .int .u64 (sw (butP (notP (fromK p k)) (ltP (fst p k))) 1 : Nat), .int .u64 (sw (butP (notP (fromK p k)) (ltP (fst p k))) 2 : Nat), .int .u64 (sw (butP (notP (fromK p k)) (ltP (fst p k))) 3 : Nat)]) ∧ Below X.heap.size X w') := fun X => Lib.hid (without_any (notP (fromK p k)) (ltP (fst p k)) X)
   have HW2 : ∀ X, Hid (Calls Tryz.prog 66 #[.agg #[.int .u64 (sw (fromK p k) 0 : Nat), .int .u64 (sw (fromK p k) 1 : Nat), .int .u64 (sw (fromK p k) 2 : Nat), .int .u64 (sw (fromK p k) 3 : Nat)], .agg #[.int .u64 (sw (ltP (fst (notP p) (fst p k))) 0 : Nat), .int .u64 (sw (ltP (fst (notP p) (fst p k))) 1 : Nat), .int .u64 (sw (ltP (fst (notP p) (fst p k))) 2 : Nat), .int .u64 (sw (ltP (fst (notP p) (fst p k))) 3 : Nat)]] X fun e w' => e = .returned (.agg #[.int .u64 (sw (fromK p (fst (notP p) (fst p k))) 0 : Nat), .int .u64 (sw (fromK p (fst (notP p) (fst p k))) 1 : Nat), .int .u64 (sw (fromK p (fst (notP p) (fst p k))) 2 : Nat), .int .u64 (sw (fromK p (fst (notP p) (fst p k))) 3 : Nat)]) ∧ Below X.heap.size X w') := fun X => Lib.hid (by have := without_any (fromK p k) (ltP (fst (notP p) (fst p k))) X; have e : SV (butP (fromK p k) (ltP (fst (notP p) (fst p k)))) = SV (fromK p (fst (notP p) (fst p k))) := HSN.out; exact this.mono fun _ _ h => ⟨h.1.trans (congrArg Ending.returned e), h.2⟩)
   have HX1 : ∀ X, DB X → Hid (Calls Tryz.prog 69 #[.int .i64 (fst p k : Nat)] X fun e w' => e = .returned (.string ⟨(hex2 (fst p k)).toArray⟩) ∧ Below X.heap.size X w') := fun X hX => Lib.hid (hex_any (fst p k) hl X hX)
   have HX2 : ∀ X, DB X → Hid (Calls Tryz.prog 69 #[.int .i64 ((fst (notP p) (fst p k) : Nat) - 1 : Int)] X fun e w' => e = .returned (.string ⟨(hex2 (fst (notP p) (fst p k) - 1)).toArray⟩) ∧ Below X.heap.size X w') := fun X hX => Lib.hid (by have := hex_any (fst (notP p) (fst p k) - 1) (by omega) X hX; rw [show ((fst (notP p) (fst p k) - 1 : Nat) : Int) = ((fst (notP p) (fst p k) : Nat) - 1 : Int) by omega] at this; exact this)
   have HR1 := fun h => Lib.hid (run_one (fst p k) (fst (notP p) (fst p k)) h)
   have HR2 := fun h => Lib.hid (run_two (fst p k) (fst (notP p) (fst p k)) h)
   have hs1 : (⟨(hex2 (fst p k)).toArray⟩ : ByteArray).size = 2 := rfl
   have hs2 : (⟨(hex2 (fst (notP p) (fst p k) - 1)).toArray⟩ : ByteArray).size = 2 := rfl
   generalize (⟨(hex2 (fst p k)).toArray⟩ : ByteArray) = s1 at *
   generalize (⟨(hex2 (fst (notP p) (fst p k) - 1)).toArray⟩ : ByteArray) = s2 at *
   generalize fst (notP p) (fst p k) = e at *
   generalize fst p k = lo at *
   clear HF1 HF2 HSN hit
   have HKP : ∀ X X', Below w.heap.size w X → X.heap[w.heap.size]? = some (.cells #[.int .u64 (sw (fromK p k) 0 : Nat), .int .u64 (sw (fromK p k) 1 : Nat), .int .u64 (sw (fromK p k) 2 : Nat), .int .u64 (sw (fromK p k) 3 : Nat)] 53 (0, 0)) → X.ownsRow w.heap.size 9 1 (.slice a0 dn.length cap0) dn.length (dn.map strV) → Below X.heap.size X X' → Below w.heap.size w X' ∧ X'.heap[w.heap.size]? = some (.cells #[.int .u64 (sw (fromK p k) 0 : Nat), .int .u64 (sw (fromK p k) 1 : Nat), .int .u64 (sw (fromK p k) 2 : Nat), .int .u64 (sw (fromK p k) 3 : Nat)] 53 (0, 0)) ∧ X'.ownsRow w.heap.size 9 1 (.slice a0 dn.length cap0) dn.length (dn.map strV) := fun X X' h1 h2 h3 hb => ⟨below_thn h1 (Nat.le_refl _) hb, blk_below h2 hb, own_drop h3 hb⟩
   have HKPH := Lib.hid HKP
   have HTX : ∀ X, Below w.heap.size w X → TZ X ∧ DB X := fun X h => ⟨HT.out.below h, HD.out.below h⟩
   have HTXH := Lib.hid HTX
   clear HKP HTX
   have K0 : Hid (Below w.heap.size w wr ∧ wr.heap[w.heap.size]? = some (.cells #[.int .u64 (sw (fromK p k) 0 : Nat), .int .u64 (sw (fromK p k) 1 : Nat), .int .u64 (sw (fromK p k) 2 : Nat), .int .u64 (sw (fromK p k) 3 : Nat)] 53 (0, 0)) ∧ wr.ownsRow w.heap.size 9 1 (.slice a0 dn.length cap0) dn.length (dn.map strV)) := Lib.hid ⟨HI.out.bel, HI.out.blk, HI.out.own⟩
   go_wp2_with fail
   refine (HL1 _ (HTXH.out _ K0.out.1).1).out.mono ?_
   rintro e' w1 ⟨rfl, hb1⟩
   have K1 := Lib.hid (HKPH.out _ _ K0.out.1 K0.out.2.1 K0.out.2.2 hb1)
   clear c0 c1 c2 c3 hbz hb1
   obtain ⟨⟨c0, c1, c2, c3⟩, _, hbz⟩ := cells4 K1.out.2.1
   go_wp2_with fail
   refine (HNT _).out.mono ?_
   rintro e' w2 ⟨rfl, hb2⟩
   have K2 := Lib.hid (HKPH.out _ _ K1.out.1 K1.out.2.1 K1.out.2.2 hb2)
   clear c0 c1 c2 c3 hbz hb2
   obtain ⟨⟨c0, c1, c2, c3⟩, _, hbz⟩ := cells4 K2.out.2.1
   go_wp2_with fail
   refine (HB1 _).out.mono ?_
   rintro e' w3 ⟨rfl, hb3⟩
   have K3 := Lib.hid (HKPH.out _ _ K2.out.1 K2.out.2.1 K2.out.2.2 hb3)
   clear c0 c1 c2 c3 hbz hb3
   obtain ⟨⟨c0, c1, c2, c3⟩, _, hbz⟩ := cells4 K3.out.2.1
   go_wp2_with fail
   refine (HW1 _).out.mono ?_
   rintro e' w4 ⟨rfl, hb4⟩
   have K4 := Lib.hid (HKPH.out _ _ K3.out.1 K3.out.2.1 K3.out.2.2 hb4)
   clear c0 c1 c2 c3 hbz hb4
   obtain ⟨⟨c0, c1, c2, c3⟩, _, hbz⟩ := cells4 K4.out.2.1
   go_wp2_with fail
   refine (HL2 _ (HTXH.out _ K4.out.1).1).out.mono ?_
   rintro e' w5 ⟨rfl, hb5⟩
   have K5 := Lib.hid (HKPH.out _ _ K4.out.1 K4.out.2.1 K4.out.2.2 hb5)
   clear c0 c1 c2 c3 hbz hb5
   obtain ⟨⟨c0, c1, c2, c3⟩, _, hbz⟩ := cells4 K5.out.2.1
   go_wp2_with fail
   refine (HX1 _ (HTXH.out _ K5.out.1).2).out.mono ?_
   rintro e' w6 ⟨rfl, hb6⟩
   have K6 := Lib.hid (HKPH.out _ _ K5.out.1 K5.out.2.1 K5.out.2.2 hb6)
   clear c0 c1 c2 c3 hbz hb6
   obtain ⟨⟨c0, c1, c2, c3⟩, _, hbz⟩ := cells4 K6.out.2.1
   by_cases hr : lo + 1 < e
   ·have hrI : (lo : Int) + 1 < (e : Int) := by omega
    go_wp2_with fail
    refine (HX2 _ (HTXH.out _ K6.out.1).2).out.mono ?_
    rintro e' w7 ⟨rfl, hb7⟩
    have K7 := Lib.hid (HKPH.out _ _ K6.out.1 K6.out.2.1 K6.out.2.2 hb7)
    clear c0 c1 c2 c3 hbz hb7
    obtain ⟨⟨c0, c1, c2, c3⟩, _, hbz⟩ := cells4 K7.out.2.1
    go_wp2_with (at_builtin; refine wpList_append_own _ rfl _ _ 71 rfl w.heap.size 9 i1 (.string ⟨#[]⟩) 1 16 Tryz.underlying71 ki kz0 kz1 kz2 rfl (by decide) _ _ _ rfl (K7.out.2.2.alloc _) ⟨w7.heap.size, 0, none⟩ 1 1 [.string (s1 ++ (⟨#[45]⟩ ++ s2))] rfl rfl ?c1 ?c2 ?c3 ?c4 ?c5 ?_)
    case c1 =>
     intro j u hj
     match j, hj with
     | 0, hj => simp at hj; subst hj; simp [Addr.add]
    case c2 => intro u hu; simp at hu; subst hu; rfl
    case c3 => unfold maxLen; omega
    case c4 => omega
    case c5 => have := K7.out.1.size; simp; omega
    intro v' wa hown' hgr _
    have HON : Hid (wa.ownsRow w.heap.size 9 1 v' (dn ++ [runT lo e]).length ((dn ++ [runT lo e]).map strV)) := Lib.hid (by rw [List.length_append, List.map_append]; rw [(HR2 hr).out] at hown'; exact hown')
    have HBA : Hid (Below w.heap.size w wa) := Lib.hid ((K7.out.1.alloc K7.out.1.size _).grown hgr (by have := K7.out.1.size; simp; omega) (fun k hk => (K7.out.2.2.lt k hk).1))
    have HBK : Hid (wa.heap[w.heap.size]? = some (.cells #[.int .u64 (sw (fromK p k) 0 : Nat), .int .u64 (sw (fromK p k) 1 : Nat), .int .u64 (sw (fromK p k) 2 : Nat), .int .u64 (sw (fromK p k) 3 : Nat)] 53 (0, 0))) := Lib.hid (blk_grown (blk_alloc K7.out.2.1 _) hgr (own_neK K7.out.2.2 K7.out.2.1 (by decide)))
    obtain ⟨a9, cap9, hv9⟩ := own_shapeT HON.out
    clear hown' hgr c0 c1 c2 c3 hbz
    subst hv9
    go_wp2_with fail
    refine Reg.wp_region_sto (fun L u X => TxS w p k e (dn ++ [runT lo e]) (.slice a9 (dn ++ [runT lo e]).length cap9) (L 4) X) (fun j => ([some (.agg #[.int .u64 (sw (fromK p k) 0 : Nat), .int .u64 (sw (fromK p k) 1 : Nat), .int .u64 (sw (fromK p k) 2 : Nat), .int .u64 (sw (fromK p k) 3 : Nat)]), some (.int .i64 (e : Nat)), some (.agg #[.int .u64 (sw (ltP e) 0 : Nat), .int .u64 (sw (ltP e) 1 : Nat), .int .u64 (sw (ltP e) 2 : Nat), .int .u64 (sw (ltP e) 3 : Nat)]), some (.agg #[.int .u64 (sw (fromK p e) 0 : Nat), .int .u64 (sw (fromK p e) 1 : Nat), .int .u64 (sw (fromK p e) 2 : Nat), .int .u64 (sw (fromK p e) 3 : Nat)]), none] : List (Option Value)).getD j none) (by kernel_rfl) (by kernel_rfl) (by kernel_rfl) (by kernel_rfl) ?rs0 ?rsE ?rsZ
    case rs0 => exact ⟨HBA.out.drew, fun _ => HBK.out, fun h => (by cases h), HON.out⟩
    case rsE =>
     refine Reg.EachG.plain rfl (fun L u T X hL hz hS hk K hK => ?_) ?_
     ·skip
      have g1 : T[1]? = some (.pointer (some ⟨w.heap.size, 0, none⟩)) := hk.old 1 (by kernel_rfl) rfl
      obtain ⟨⟨z0, z1, z2, z3⟩, _, _⟩ := cells4 (hS.old (hz 4 (by kernel_rfl)))
      have hK := hK _ X hS (fun _ hx => Option.some.inj hx)
      clear hk hz hL
      go_simp
      exact hK
     refine Reg.EachG.plain rfl (fun L u T X hL hz hS hk K hK => ?_) ?_
     ·skip
      have g5 : T[5]? = some (.int .i64 (e : Nat)) := hk.old 5 (by kernel_rfl) rfl
      have hK := hK _ X hS (fun _ hx => Option.some.inj hx)
      clear hk hz hL
      go_simp
      exact hK
     refine Reg.EachG.plain rfl (fun L u T X hL hz hS hk K hK => ?_) ?_
     ·skip
      have g35 : T[35]? = some (.int .i64 (e : Nat)) := hk.val 1 35 (by kernel_rfl) (by kernel_rfl) rfl
      clear hk hz
      go_simp
      refine (HB2 _).out.mono ?_
      rintro e' w' ⟨rfl, hb⟩
      exact hK _ _ ⟨below_thn hS.bel (Nat.le_refl _) hb, fun h => blk_below (hS.old h) hb, fun h => blk_below (hS.new h) hb, own_drop hS.own hb⟩ (fun _ hx => Option.some.inj hx)
     refine Reg.EachG.plain rfl (fun L u T X hL hz hS hk K hK => ?_) ?_
     ·skip
      have g34 : T[34]? = some (.agg #[.int .u64 (sw (fromK p k) 0 : Nat), .int .u64 (sw (fromK p k) 1 : Nat), .int .u64 (sw (fromK p k) 2 : Nat), .int .u64 (sw (fromK p k) 3 : Nat)]) := hk.val 0 34 (by kernel_rfl) (by kernel_rfl) rfl
      have g36 : T[36]? = some (.agg #[.int .u64 (sw (ltP e) 0 : Nat), .int .u64 (sw (ltP e) 1 : Nat), .int .u64 (sw (ltP e) 2 : Nat), .int .u64 (sw (ltP e) 3 : Nat)]) := hk.val 2 36 (by kernel_rfl) (by kernel_rfl) rfl
      clear hk hz
      go_simp
      refine (HW2 _).out.mono ?_
      rintro e' w' ⟨rfl, hb⟩
      exact hK _ _ ⟨below_thn hS.bel (Nat.le_refl _) hb, fun h => blk_below (hS.old h) hb, fun h => blk_below (hS.new h) hb, own_drop hS.own hb⟩ (fun _ hx => Option.some.inj hx)
     refine Reg.EachG.plain rfl (fun L u T X hL hz hS hk K hK => ?_) ?_
     ·skip
      have g1 : T[1]? = some (.pointer (some ⟨w.heap.size, 0, none⟩)) := hk.old 1 (by kernel_rfl) rfl
      have g37 : T[37]? = some (.agg #[.int .u64 (sw (fromK p e) 0 : Nat), .int .u64 (sw (fromK p e) 1 : Nat), .int .u64 (sw (fromK p e) 2 : Nat), .int .u64 (sw (fromK p e) 3 : Nat)]) := hk.val 3 37 (by kernel_rfl) (by kernel_rfl) rfl
      have hold := hS.old hL
      obtain ⟨⟨z0, z1, z2, z3⟩, ⟨f0, f1, f2, f3⟩, hgz⟩ := cells4 hold
      have hK := hK undef ((((X.setCell ⟨w.heap.size, 0, none⟩ (.int .u64 (sw (fromK p e) 0 : Nat))).setCell ⟨w.heap.size, 1, none⟩ (.int .u64 (sw (fromK p e) 1 : Nat))).setCell ⟨w.heap.size, 2, none⟩ (.int .u64 (sw (fromK p e) 2 : Nat))).setCell ⟨w.heap.size, 3, none⟩ (.int .u64 (sw (fromK p e) 3 : Nat))) ⟨(((hS.bel.setCell (Nat.le_refl _) _).setCell (Nat.le_refl _) _).setCell (Nat.le_refl _) _).setCell (Nat.le_refl _) _, fun h => (by rw [Reg.upd_same] at h; cases h), fun _ => blk_putB (fromK p e) hold, own_set4 hS.own hold (by decide) _ _ _ _⟩ (fun _ hx => by cases hx)
      clear hk hz hL hS hold
      go_simp
      exact hK
     exact Reg.EachG.nil
    case rsZ =>
     intro L u w1z hL hS hI
     have e0 : u 0 = .agg #[.int .u64 (sw (fromK p k) 0 : Nat), .int .u64 (sw (fromK p k) 1 : Nat), .int .u64 (sw (fromK p k) 2 : Nat), .int .u64 (sw (fromK p k) 3 : Nat)] := hI 0 (by decide) _ rfl
     have e1 : u 1 = .int .i64 (e : Nat) := hI 1 (by decide) _ rfl
     have e2 : u 2 = .agg #[.int .u64 (sw (ltP e) 0 : Nat), .int .u64 (sw (ltP e) 1 : Nat), .int .u64 (sw (ltP e) 2 : Nat), .int .u64 (sw (ltP e) 3 : Nat)] := hI 2 (by decide) _ rfl
     have e3 : u 3 = .agg #[.int .u64 (sw (fromK p e) 0 : Nat), .int .u64 (sw (fromK p e) 1 : Nat), .int .u64 (sw (fromK p e) 2 : Nat), .int .u64 (sw (fromK p e) 3 : Nat)] := hI 3 (by decide) _ rfl
     clear hI
     simp only [Reg.putAll, Act.put, List.setIfInBounds_toArray, List.set_cons_succ, List.set_cons_zero, Nat.zero_add, Nat.reduceAdd, e0, e1, e2, e3]
     clear e0 e1 e2 e3
     have hn := hS.new (hL 4 (by decide))
     have HE : Hid (TxI w p e (dn ++ [runT lo e]) (.slice a9 (dn ++ [runT lo e]).length cap9) w1z) := Lib.hid ⟨hle, by rw [List.append_assoc, List.singleton_append, ← HST.out]; exact HI.out.spl, hS.bel, hn, hS.own⟩
     clear hS hn hL
     go_wp2
     exact ⟨⟨e, _, HE.out⟩, by simp; omega⟩
   ·have hrI : ¬ (lo : Int) + 1 < (e : Int) := by omega
    go_wp2_with (at_builtin; refine wpList_append_own _ rfl _ _ 71 rfl w.heap.size 9 i1 (.string ⟨#[]⟩) 1 16 Tryz.underlying71 ki kz0 kz1 kz2 rfl (by decide) _ _ _ rfl (K6.out.2.2.alloc _) ⟨w6.heap.size, 0, none⟩ 1 1 [.string (s1)] rfl rfl ?c1 ?c2 ?c3 ?c4 ?c5 ?_)
    case c1 =>
     intro j u hj
     match j, hj with
     | 0, hj => simp at hj; subst hj; simp [Addr.add]
    case c2 => intro u hu; simp at hu; subst hu; rfl
    case c3 => unfold maxLen; omega
    case c4 => omega
    case c5 => have := K6.out.1.size; simp; omega
    intro v' wa hown' hgr _
    have HON : Hid (wa.ownsRow w.heap.size 9 1 v' (dn ++ [runT lo e]).length ((dn ++ [runT lo e]).map strV)) := Lib.hid (by rw [List.length_append, List.map_append]; rw [(HR1 hr).out] at hown'; exact hown')
    have HBA : Hid (Below w.heap.size w wa) := Lib.hid ((K6.out.1.alloc K6.out.1.size _).grown hgr (by have := K6.out.1.size; simp; omega) (fun k hk => (K6.out.2.2.lt k hk).1))
    have HBK : Hid (wa.heap[w.heap.size]? = some (.cells #[.int .u64 (sw (fromK p k) 0 : Nat), .int .u64 (sw (fromK p k) 1 : Nat), .int .u64 (sw (fromK p k) 2 : Nat), .int .u64 (sw (fromK p k) 3 : Nat)] 53 (0, 0))) := Lib.hid (blk_grown (blk_alloc K6.out.2.1 _) hgr (own_neK K6.out.2.2 K6.out.2.1 (by decide)))
    obtain ⟨a9, cap9, hv9⟩ := own_shapeT HON.out
    clear hown' hgr c0 c1 c2 c3 hbz
    subst hv9
    go_wp2_with fail
    refine Reg.wp_region_sto (fun L u X => TxS w p k e (dn ++ [runT lo e]) (.slice a9 (dn ++ [runT lo e]).length cap9) (L 4) X) (fun j => ([some (.agg #[.int .u64 (sw (fromK p k) 0 : Nat), .int .u64 (sw (fromK p k) 1 : Nat), .int .u64 (sw (fromK p k) 2 : Nat), .int .u64 (sw (fromK p k) 3 : Nat)]), some (.int .i64 (e : Nat)), some (.agg #[.int .u64 (sw (ltP e) 0 : Nat), .int .u64 (sw (ltP e) 1 : Nat), .int .u64 (sw (ltP e) 2 : Nat), .int .u64 (sw (ltP e) 3 : Nat)]), some (.agg #[.int .u64 (sw (fromK p e) 0 : Nat), .int .u64 (sw (fromK p e) 1 : Nat), .int .u64 (sw (fromK p e) 2 : Nat), .int .u64 (sw (fromK p e) 3 : Nat)]), none] : List (Option Value)).getD j none) (by kernel_rfl) (by kernel_rfl) (by kernel_rfl) (by kernel_rfl) ?rs0 ?rsE ?rsZ
    case rs0 => exact ⟨HBA.out.drew, fun _ => HBK.out, fun h => (by cases h), HON.out⟩
    case rsE =>
     refine Reg.EachG.plain rfl (fun L u T X hL hz hS hk K hK => ?_) ?_
     ·skip
      have g1 : T[1]? = some (.pointer (some ⟨w.heap.size, 0, none⟩)) := hk.old 1 (by kernel_rfl) rfl
      obtain ⟨⟨z0, z1, z2, z3⟩, _, _⟩ := cells4 (hS.old (hz 4 (by kernel_rfl)))
      have hK := hK _ X hS (fun _ hx => Option.some.inj hx)
      clear hk hz hL
      go_simp
      exact hK
     refine Reg.EachG.plain rfl (fun L u T X hL hz hS hk K hK => ?_) ?_
     ·skip
      have g5 : T[5]? = some (.int .i64 (e : Nat)) := hk.old 5 (by kernel_rfl) rfl
      have hK := hK _ X hS (fun _ hx => Option.some.inj hx)
      clear hk hz hL
      go_simp
      exact hK
     refine Reg.EachG.plain rfl (fun L u T X hL hz hS hk K hK => ?_) ?_
     ·skip
      have g35 : T[35]? = some (.int .i64 (e : Nat)) := hk.val 1 35 (by kernel_rfl) (by kernel_rfl) rfl
      clear hk hz
      go_simp
      refine (HB2 _).out.mono ?_
      rintro e' w' ⟨rfl, hb⟩
      exact hK _ _ ⟨below_thn hS.bel (Nat.le_refl _) hb, fun h => blk_below (hS.old h) hb, fun h => blk_below (hS.new h) hb, own_drop hS.own hb⟩ (fun _ hx => Option.some.inj hx)
     refine Reg.EachG.plain rfl (fun L u T X hL hz hS hk K hK => ?_) ?_
     ·skip
      have g34 : T[34]? = some (.agg #[.int .u64 (sw (fromK p k) 0 : Nat), .int .u64 (sw (fromK p k) 1 : Nat), .int .u64 (sw (fromK p k) 2 : Nat), .int .u64 (sw (fromK p k) 3 : Nat)]) := hk.val 0 34 (by kernel_rfl) (by kernel_rfl) rfl
      have g36 : T[36]? = some (.agg #[.int .u64 (sw (ltP e) 0 : Nat), .int .u64 (sw (ltP e) 1 : Nat), .int .u64 (sw (ltP e) 2 : Nat), .int .u64 (sw (ltP e) 3 : Nat)]) := hk.val 2 36 (by kernel_rfl) (by kernel_rfl) rfl
      clear hk hz
      go_simp
      refine (HW2 _).out.mono ?_
      rintro e' w' ⟨rfl, hb⟩
      exact hK _ _ ⟨below_thn hS.bel (Nat.le_refl _) hb, fun h => blk_below (hS.old h) hb, fun h => blk_below (hS.new h) hb, own_drop hS.own hb⟩ (fun _ hx => Option.some.inj hx)
     refine Reg.EachG.plain rfl (fun L u T X hL hz hS hk K hK => ?_) ?_
     ·skip
      have g1 : T[1]? = some (.pointer (some ⟨w.heap.size, 0, none⟩)) := hk.old 1 (by kernel_rfl) rfl
      have g37 : T[37]? = some (.agg #[.int .u64 (sw (fromK p e) 0 : Nat), .int .u64 (sw (fromK p e) 1 : Nat), .int .u64 (sw (fromK p e) 2 : Nat), .int .u64 (sw (fromK p e) 3 : Nat)]) := hk.val 3 37 (by kernel_rfl) (by kernel_rfl) rfl
      have hold := hS.old hL
      obtain ⟨⟨z0, z1, z2, z3⟩, ⟨f0, f1, f2, f3⟩, hgz⟩ := cells4 hold
      have hK := hK undef ((((X.setCell ⟨w.heap.size, 0, none⟩ (.int .u64 (sw (fromK p e) 0 : Nat))).setCell ⟨w.heap.size, 1, none⟩ (.int .u64 (sw (fromK p e) 1 : Nat))).setCell ⟨w.heap.size, 2, none⟩ (.int .u64 (sw (fromK p e) 2 : Nat))).setCell ⟨w.heap.size, 3, none⟩ (.int .u64 (sw (fromK p e) 3 : Nat))) ⟨(((hS.bel.setCell (Nat.le_refl _) _).setCell (Nat.le_refl _) _).setCell (Nat.le_refl _) _).setCell (Nat.le_refl _) _, fun h => (by rw [Reg.upd_same] at h; cases h), fun _ => blk_putB (fromK p e) hold, own_set4 hS.own hold (by decide) _ _ _ _⟩ (fun _ hx => by cases hx)
      clear hk hz hL hS hold
      go_simp
      exact hK
     exact Reg.EachG.nil
    case rsZ =>
     intro L u w1z hL hS hI
     have e0 : u 0 = .agg #[.int .u64 (sw (fromK p k) 0 : Nat), .int .u64 (sw (fromK p k) 1 : Nat), .int .u64 (sw (fromK p k) 2 : Nat), .int .u64 (sw (fromK p k) 3 : Nat)] := hI 0 (by decide) _ rfl
     have e1 : u 1 = .int .i64 (e : Nat) := hI 1 (by decide) _ rfl
     have e2 : u 2 = .agg #[.int .u64 (sw (ltP e) 0 : Nat), .int .u64 (sw (ltP e) 1 : Nat), .int .u64 (sw (ltP e) 2 : Nat), .int .u64 (sw (ltP e) 3 : Nat)] := hI 2 (by decide) _ rfl
     have e3 : u 3 = .agg #[.int .u64 (sw (fromK p e) 0 : Nat), .int .u64 (sw (fromK p e) 1 : Nat), .int .u64 (sw (fromK p e) 2 : Nat), .int .u64 (sw (fromK p e) 3 : Nat)] := hI 3 (by decide) _ rfl
     clear hI
     simp only [Reg.putAll, Act.put, List.setIfInBounds_toArray, List.set_cons_succ, List.set_cons_zero, Nat.zero_add, Nat.reduceAdd, e0, e1, e2, e3]
     clear e0 e1 e2 e3
     have hn := hS.new (hL 4 (by decide))
     have HE : Hid (TxI w p e (dn ++ [runT lo e]) (.slice a9 (dn ++ [runT lo e]).length cap9) w1z) := Lib.hid ⟨hle, by rw [List.append_assoc, List.singleton_append, ← HST.out]; exact HI.out.spl, hS.bel, hn, hS.own⟩
     clear hS hn hL
     go_wp2
     exact ⟨⟨e, _, HE.out⟩, by simp; omega⟩
  ·have hno := (fst_none p k HI.out.hk).1 hl
   have E := eq_yesM (fromK p k) noP hno
   have z : ∀ i, ((sw noP i : Nat) : Int) = 0 := sw_zero
   simp only [z] at E
   have HEN : Hid (dn = runs p) := Lib.hid (by have := HI.out.spl; rw [runsN_end p k hl, List.append_nil] at this; exact this)
   have HJ : Hid (Calls Tryz.prog 29 #[.slice a0 dn.length cap0, .string ⟨#[44]⟩] wr fun e w' => e = .returned (.string ⟨(Lib.join (runs p) [44]).toArray⟩) ∧ Below wr.heap.size wr w') := Lib.hid (by have := join_own ⟨#[44]⟩ wr HI.out.own (by omega) (by rw [HEN.out]; have := HRL.out.2; simp; omega); rw [HEN.out] at this; rw [HEN.out]; exact this)
   have hjs : (⟨(Lib.join (runs p) [44]).toArray⟩ : ByteArray).size ≤ 1536 := by have := HRL.out.2; simpa [ByteArray.size] using this
   have HTS : Hid ((⟨#[91]⟩ : ByteArray) ++ ⟨(Lib.join (runs p) [44]).toArray⟩ ++ ⟨#[93]⟩ = textS p) := Lib.hid (by apply ByteArray.ext; simp [textS, textL])
   generalize (⟨(Lib.join (runs p) [44]).toArray⟩ : ByteArray) = J at *
   clear hno z
   go_wp2_with fail
   refine HJ.out.mono ?_
   rintro e' w1 ⟨rfl, hb1⟩
   have HBE := Lib.hid (below_thn HI.out.bel (Nat.le_refl _) hb1)
   clear hb1
   go_wp2
   go_ret
   exact ⟨by rw [← HTS.out]; rfl, HBE.out⟩
end Go.Proofs.YtopnckfmdjhbjaaGreatDoor
/- Contracts of Parse, Plain, Pieces. -/
namespace Go.Proofs.YtopnckfmdjhbjaaGreatDoor
open Go.RowKit

set_option maxHeartbeats 4000000 in
theorem esOf_long (e : Nat → Addr) (B : Nat) (w : World) (hs : Es w B e) :
  Calls Tryz.prog 19 #[.int .i64 2] w fun x w' => x = .returned (bot (e 2)) ∧ w' = w := by
 have hv := hs.var 2 (by omega) (by omega)
 unfold bot
 try simp only [Nat.reduceSub] at hv
 go_enter Tryz.func19, Tryz.ntmps19
 go_wp2
 go_ret
 exact ⟨rfl, rfl⟩

set_option maxRecDepth 100000 in
set_option maxHeartbeats 4000000 in
/-- Nothing to read. -/
theorem gread_none (a : Option Addr) (cap b : Nat) (w : World) :
  Calls Tryz.prog 20 #[.pointer (some ⟨b, 0, none⟩), .slice a 0 cap] w fun e w' => e = .returned (.tuple #[]) ∧ w' = w := by
 go_enter Tryz.func20, Tryz.ntmps20
 go_wp2
 go_step3
 go_wp2
 go_step3
 go_wp2
 refine wp_loop_rounds 1 ?_
 rw [rounds_succ]
 go_wp2
 rw [Exit.noGoto_normal]
 go_end0
 exact ⟨rfl, rfl⟩

set_option maxRecDepth 100000 in
set_option maxHeartbeats 4000000 in
theorem parse_long (e : Nat → Addr) (a : Option Addr) (n cap : Nat) (hn : 256 < n) (w : World) (he : Es w w.heap.size e) :
  Calls Tryz.prog 5 #[.slice a n cap] w fun x w' => ∃ v, x = .returned (.tuple #[.pointer none, v]) ∧ ErrS w' w.heap.size e 2 2 0 v ∧ Below w.heap.size w w' := by
 have HE := Lib.hid he
 have hnI : (256 : Int) < (n : Int) := by omega
 have HO := Lib.hid (esOf_long e w.heap.size w he)
 clear he
 go_enter Tryz.func5, Tryz.ntmps5
 go_wp2_with fail
 refine HO.out.mono ?_
 rintro x w1 ⟨rfl, rfl⟩
 unfold bot
 go_wp2_with fail
 refine (esWrap_At _ _ _ _).mono ?_
 rintro x w2 ⟨rfl, rfl⟩
 go_wp2_with fail
 refine (esWrap_In _ _ _ _).mono ?_
 rintro x w3 ⟨rfl, rfl⟩
 go_wp2
 go_ret2
 refine ⟨_, rfl, ⟨w1.heap.size + 1, w1.heap.size, by simp, by omega, by simp, Nat.le_refl _, by simp; omega, ?_, ?_⟩, ?_⟩
 ·have := alloc_last (w1.alloc (.cells #[bot (e 2), .int .i64 0] 64)) (.cells #[.iface 60 (.pointer (some ⟨w1.heap.size, 0, none⟩)), .int .i64 2] 69)
  simpa [bot] using this
 ·exact blk_alloc (alloc_last w1 _) _
 ·exact ((Below.refl _ _).alloc (Nat.le_refl _) _).alloc (by simp) _

theorem Sl.shape {w : World} {v : Value} {l : List Int} (h : Sl w v l) : (l = [] ∧ ∃ a cap, v = .slice a 0 cap) ∨ ∃ b o cap, v = .slice (some ⟨b, o, none⟩) l.length cap ∧ l.length ≤ cap ∧ cap ≤ 9223372036854775807 ∧ Row w b o l := h.2.2

set_option maxRecDepth 100000 in
set_option maxHeartbeats 8000000 in
/-- A text that is short enough. -/
theorem parse_ok (cf : ByteArray → (Nat → Bool) × Bool) (hcf : ClassOk cf) (e : Nat → Addr) (v : Value) (l : List Int) (w : World) (he : Es w w.heap.size e) (hT : TZ w) (hs : Sl w v l) (hl : l.length ≤ 256) :
  Calls Tryz.prog 5 #[v] w fun x w' => ∃ b, x = .returned (.tuple #[.pointer (some ⟨b, 0, none⟩), .nilIface]) ∧ PatAt w.heap.size b (glP cf l) w' ∧ Below w.heap.size w w' := by
 have HP0 : Hid (PatAt w.heap.size w.heap.size [] (w.alloc (.cells #[.slice none 0 0, .slice none 0 0] 48))) :=
  Lib.hid ⟨Nat.le_refl _, _, _, alloc_last w _, World.ownsRow_nil _ _ _ _, World.ownsRow_nil _ _ _ _⟩
 have HB0 : Hid (Below w.heap.size w (w.alloc (.cells #[.slice none 0 0, .slice none 0 0] 48))) := Lib.hid ((Below.refl _ _).alloc (Nat.le_refl _) _)
 rcases hs.shape with ⟨rfl, a, cap, rfl⟩ | ⟨x, o, cap, rfl, hlc, hcm, hrow⟩
 ·have HG : ∀ X, Hid (Calls Tryz.prog 20 #[.pointer (some ⟨w.heap.size, 0, none⟩), .slice a 0 cap] X fun e w' => e = .returned (.tuple #[]) ∧ w' = X) := fun X => Lib.hid (gread_none a cap w.heap.size X)
  clear hs he hT
  go_enter Tryz.func5, Tryz.ntmps5
  go_wp2_with fail
  refine (HG _).out.mono ?_
  rintro x w1 ⟨rfl, rfl⟩
  go_wp2
  go_ret2
  exact ⟨_, rfl, HP0.out, HB0.out⟩
 ·have HG := Lib.hid (gread_any cf hcf e w x o cap l w.heap.size _ he hT hs (by omega) hlc hcm hrow HP0.out HB0.out)
  have hnI : ¬ (256 : Int) < (l.length : Int) := by omega
  clear hs he hT hrow HP0 HB0
  go_enter Tryz.func5, Tryz.ntmps5
  go_wp2_with fail
  refine HG.out.mono ?_
  rintro e' w1 ⟨rfl, hp1, hb1⟩
  have HP1 := Lib.hid hp1
  have HB1 := Lib.hid hb1
  clear hp1 hb1
  go_wp2
  go_ret2
  exact ⟨_, rfl, HP1.out, HB1.out⟩

end Go.Proofs.YtopnckfmdjhbjaaGreatDoor
/- The contract of Plain (gen_plain.py). -/
namespace Go.Proofs.YtopnckfmdjhbjaaGreatDoor
open Go.RowKit

theorem byL_mem {p : Nat → Bool} {k : Nat} {c : Int} (h : c ∈ byL p k) : 0 ≤ c ∧ c < k := by
 unfold byL at h
 obtain ⟨d, hd, rfl⟩ := List.mem_map.1 h
 have := List.mem_range.1 (List.mem_filter.1 hd).1
 omega
theorem plainL_byt (ps : List Pc) : Byt (plainL ps) := byt_of fun c hc => by
 unfold plainL at hc
 obtain ⟨x, hx, hcx⟩ := List.mem_flatten.1 hc
 obtain ⟨y, _, rfl⟩ := List.mem_map.1 hx
 unfold plain1 at hcx
 split at hcx
 ·have := byL_mem hcx
  omega
 ·simp at hcx

set_option maxRecDepth 100000 in
set_option maxHeartbeats 8000000 in
/-- Told: the bytes, if each piece is one. -/
theorem plain_any (B b : Nat) (ps : List Pc) (w : World) (h : PatAt B b ps w) (hl : ps.length ≤ 1048576) :
  Calls Tryz.prog 15 #[.pointer (some ⟨b, 0, none⟩)] w fun x w' => x = .returned (.tuple #[.string (if (plainL ps).length < ps.length then ⟨#[]⟩ else ofBys (plainL ps)), .bool (decide (ps.length ≤ (plainL ps).length))]) ∧ Below w.heap.size w w' := by
 obtain ⟨hB, v, u, hpb, hrow, hplain⟩ := h
 have hpl := plainL_len ps
 obtain ⟨n, hn⟩ : ∃ n, n = ps.length := ⟨_, rfl⟩
 obtain ⟨m, hm⟩ : ∃ m, m = (plainL ps).length := ⟨_, rfl⟩
 have hsl := slOwnedM hplain (plainL_byt ps) (by omega)
 rw [← hn] at hrow hl hpl ⊢
 rw [← hm] at hplain hpl ⊢
 obtain ⟨av, capv, rfl⟩ := own_shapeK hrow
 obtain ⟨au, capu, rfl⟩ := own_shapeK hplain
 have HSL := Lib.hid hsl
 have HR : Hid (∀ X, Below w.heap.size w X → X.heap[b]? = some (.cells #[.slice av n capv, .slice au m capu] 48 (0, 0))) := Lib.hid fun X hX => blk_below hpb hX
 clear hrow hplain hpb hsl
 have HN := Lib.hid hn
 clear hn hm
 generalize hL : plainL ps = L at *
 clear hL
 by_cases hlt : m < n
 ·have hltI : (m : Int) < (n : Int) := by omega
  rw [if_pos hlt, show decide (n ≤ m) = false by simp; omega]
  go_enter Tryz.func15, Tryz.ntmps15
  go_wp2_with fail
  refine Reg.wp_region_vals (fun X => Below w.heap.size w X) (fun j => ([some (.pointer (some ⟨b, 0, none⟩)), some (.bool false), some (.bool false), some (.pointer (some ⟨b, 0, none⟩)), some (.pointer (some ⟨b, 0, none⟩)), some (.pointer (some ⟨b, 1, none⟩)), some (.slice au m capu), some (.int .i64 (m : Nat)), some (.pointer (some ⟨b, 0, none⟩)), some (.pointer (some ⟨b, 0, none⟩)), some (.pointer (some ⟨b, 0, none⟩)), some (.slice av n capv), some (.int .i64 (n : Nat)), some (.bool true), some (.bool true)] : List (Option Value)).getD j none) (fun _ _ _ => True) (by kernel_rfl) (by kernel_rfl) (by kernel_rfl) (by kernel_rfl) ?rs0 ?rsE ?rsZ
  case rs0 => exact (Below.refl _ _).drew
  case rsE =>
   refine Reg.EachV.plain rfl (fun T X hS hk K hK => ?_) ?_
   ·skip
    have g0 : T[0]? = some (.pointer (some ⟨b, 0, none⟩)) := hk.old 0 (by kernel_rfl) rfl
    have hK := hK _ X hS (Reg.Is.of_val rfl) (fun _ _ _ h => h)
    clear hk
    go_simp
    exact hK
   refine Reg.EachV.plain rfl (fun T X hS hk K hK => ?_) ?_
   ·skip
    have g4 : T[4]? = some (.pointer (some ⟨b, 0, none⟩)) := hk.val 0 4 (by kernel_rfl) (by kernel_rfl) rfl
    have hK := hK _ X hS (Reg.Is.of_val rfl) (fun _ _ _ h => h)
    clear hk
    go_simp
    exact hK
   refine Reg.EachV.plain rfl (fun T X hS hk K hK => ?_) ?_
   ·skip
    have g5 : T[5]? = some (.bool false) := hk.val 1 5 (by kernel_rfl) (by kernel_rfl) rfl
    have hK := hK _ X hS (Reg.Is.of_val rfl) (fun _ _ _ h => h)
    clear hk
    go_simp
    exact hK
   refine Reg.EachV.guarded 2 6 false rfl (by kernel_rfl) (by kernel_rfl) rfl (fun T X hS hk K hK => ?_) ?_
   ·skip
    have g0 : T[0]? = some (.pointer (some ⟨b, 0, none⟩)) := hk.old 0 (by kernel_rfl) rfl
    have hK := hK _ X hS (Reg.Is.of_val rfl) (fun _ _ _ h => h)
    clear hk
    go_simp
    exact hK
   refine Reg.EachV.guarded 2 6 false rfl (by kernel_rfl) (by kernel_rfl) rfl (fun T X hS hk K hK => ?_) ?_
   ·skip
    have g7 : T[7]? = some (.pointer (some ⟨b, 0, none⟩)) := hk.val 3 7 (by kernel_rfl) (by kernel_rfl) rfl
    have hK := hK _ X hS (Reg.Is.of_val rfl) (fun _ _ _ h => h)
    clear hk
    go_simp
    exact hK
   refine Reg.EachV.guarded 2 6 false rfl (by kernel_rfl) (by kernel_rfl) rfl (fun T X hS hk K hK => ?_) ?_
   ·skip
    have g8 : T[8]? = some (.pointer (some ⟨b, 0, none⟩)) := hk.val 4 8 (by kernel_rfl) (by kernel_rfl) rfl
    have hK := hK _ X hS (Reg.Is.of_val rfl) (fun _ _ _ h => h)
    clear hk
    go_simp
    exact hK
   refine Reg.EachV.guarded 2 6 false rfl (by kernel_rfl) (by kernel_rfl) rfl (fun T X hS hk K hK => ?_) ?_
   ·skip
    have g9 : T[9]? = some (.pointer (some ⟨b, 1, none⟩)) := hk.val 5 9 (by kernel_rfl) (by kernel_rfl) rfl
    obtain ⟨⟨c0, c1⟩, _, hbz⟩ := cells2 (HR.out X hS)
    have hK := hK _ X hS (Reg.Is.of_val rfl) (fun _ _ _ h => h)
    clear hk
    go_simp
    exact hK
   refine Reg.EachV.guarded 2 6 false rfl (by kernel_rfl) (by kernel_rfl) rfl (fun T X hS hk K hK => ?_) ?_
   ·skip
    have g10 : T[10]? = some (.slice au m capu) := hk.val 6 10 (by kernel_rfl) (by kernel_rfl) rfl
    have hK := hK _ X hS (Reg.Is.of_val rfl) (fun _ _ _ h => h)
    clear hk
    go_simp
    exact hK
   refine Reg.EachV.guarded 2 6 false rfl (by kernel_rfl) (by kernel_rfl) rfl (fun T X hS hk K hK => ?_) ?_
   ·skip
    have g0 : T[0]? = some (.pointer (some ⟨b, 0, none⟩)) := hk.old 0 (by kernel_rfl) rfl
    have hK := hK _ X hS (Reg.Is.of_val rfl) (fun _ _ _ h => h)
    clear hk
    go_simp
    exact hK
   refine Reg.EachV.guarded 2 6 false rfl (by kernel_rfl) (by kernel_rfl) rfl (fun T X hS hk K hK => ?_) ?_
   ·skip
    have g12 : T[12]? = some (.pointer (some ⟨b, 0, none⟩)) := hk.val 8 12 (by kernel_rfl) (by kernel_rfl) rfl
    have hK := hK _ X hS (Reg.Is.of_val rfl) (fun _ _ _ h => h)
    clear hk
    go_simp
    exact hK
   refine Reg.EachV.guarded 2 6 false rfl (by kernel_rfl) (by kernel_rfl) rfl (fun T X hS hk K hK => ?_) ?_
   ·skip
    have g13 : T[13]? = some (.pointer (some ⟨b, 0, none⟩)) := hk.val 9 13 (by kernel_rfl) (by kernel_rfl) rfl
    have hK := hK _ X hS (Reg.Is.of_val rfl) (fun _ _ _ h => h)
    clear hk
    go_simp
    exact hK
   refine Reg.EachV.guarded 2 6 false rfl (by kernel_rfl) (by kernel_rfl) rfl (fun T X hS hk K hK => ?_) ?_
   ·skip
    have g14 : T[14]? = some (.pointer (some ⟨b, 0, none⟩)) := hk.val 10 14 (by kernel_rfl) (by kernel_rfl) rfl
    obtain ⟨⟨c0, c1⟩, _, hbz⟩ := cells2 (HR.out X hS)
    have hK := hK _ X hS (Reg.Is.of_val rfl) (fun _ _ _ h => h)
    clear hk
    go_simp
    exact hK
   refine Reg.EachV.guarded 2 6 false rfl (by kernel_rfl) (by kernel_rfl) rfl (fun T X hS hk K hK => ?_) ?_
   ·skip
    have g15 : T[15]? = some (.slice av n capv) := hk.val 11 15 (by kernel_rfl) (by kernel_rfl) rfl
    have hK := hK _ X hS (Reg.Is.of_val rfl) (fun _ _ _ h => h)
    clear hk
    go_simp
    exact hK
   refine Reg.EachV.guarded 2 6 false rfl (by kernel_rfl) (by kernel_rfl) rfl (fun T X hS hk K hK => ?_) ?_
   ·skip
    have g11 : T[11]? = some (.int .i64 (m : Nat)) := hk.val 7 11 (by kernel_rfl) (by kernel_rfl) rfl
    have g16 : T[16]? = some (.int .i64 (n : Nat)) := hk.val 12 16 (by kernel_rfl) (by kernel_rfl) rfl
    have hK := hK _ X hS (Reg.Is.of_val rfl) (fun _ _ _ h => h)
    clear hk
    go_simp
    exact hK
   refine Reg.EachV.plain rfl (fun T X hS hk K hK => ?_) ?_
   ·skip
    have g6 : T[6]? = some (.bool false) := hk.val 2 6 (by kernel_rfl) (by kernel_rfl) rfl
    have g17 : T[17]? = some (.bool true) := hk.val 13 17 (by kernel_rfl) (by kernel_rfl) rfl
    have hK := hK _ X hS (Reg.Is.of_val rfl) (fun _ _ _ h => h)
    clear hk
    go_simp
    exact hK
   exact Reg.EachV.nil
  case rsZ =>
   intro u w1 hS hI
   have e0 : u 0 = .pointer (some ⟨b, 0, none⟩) := (hI 0 (by decide)).val rfl
   have e1 : u 1 = .bool false := (hI 1 (by decide)).val rfl
   have e2 : u 2 = .bool false := (hI 2 (by decide)).val rfl
   have e3 : u 3 = .pointer (some ⟨b, 0, none⟩) := (hI 3 (by decide)).val rfl
   have e4 : u 4 = .pointer (some ⟨b, 0, none⟩) := (hI 4 (by decide)).val rfl
   have e5 : u 5 = .pointer (some ⟨b, 1, none⟩) := (hI 5 (by decide)).val rfl
   have e6 : u 6 = .slice au m capu := (hI 6 (by decide)).val rfl
   have e7 : u 7 = .int .i64 (m : Nat) := (hI 7 (by decide)).val rfl
   have e8 : u 8 = .pointer (some ⟨b, 0, none⟩) := (hI 8 (by decide)).val rfl
   have e9 : u 9 = .pointer (some ⟨b, 0, none⟩) := (hI 9 (by decide)).val rfl
   have e10 : u 10 = .pointer (some ⟨b, 0, none⟩) := (hI 10 (by decide)).val rfl
   have e11 : u 11 = .slice av n capv := (hI 11 (by decide)).val rfl
   have e12 : u 12 = .int .i64 (n : Nat) := (hI 12 (by decide)).val rfl
   have e13 : u 13 = .bool true := (hI 13 (by decide)).val rfl
   have e14 : u 14 = .bool true := (hI 14 (by decide)).val rfl
   clear hI
   simp only [Reg.putAll, Act.put, List.setIfInBounds_toArray, List.set_cons_succ, List.set_cons_zero, Nat.zero_add, Nat.reduceAdd, e0, e1, e2, e3, e4, e5, e6, e7, e8, e9, e10, e11, e12, e13, e14]
   clear e0 e1 e2 e3 e4 e5 e6 e7 e8 e9 e10 e11 e12 e13 e14
   have HB := Lib.hid hS
   clear hS
   go_wp2
   go_ret2
   exact ⟨rfl, HB.out⟩
 ·have hltI : ¬ (m : Int) < (n : Int) := by omega
  rw [if_neg hlt, show decide (n ≤ m) = true by simp; omega]
  go_enter Tryz.func15, Tryz.ntmps15
  go_wp2_with fail
  refine Reg.wp_region_vals (fun X => Below w.heap.size w X) (fun j => ([some (.pointer (some ⟨b, 0, none⟩)), some (.bool false), some (.bool false), some (.pointer (some ⟨b, 0, none⟩)), some (.pointer (some ⟨b, 0, none⟩)), some (.pointer (some ⟨b, 1, none⟩)), some (.slice au m capu), some (.int .i64 (m : Nat)), some (.pointer (some ⟨b, 0, none⟩)), some (.pointer (some ⟨b, 0, none⟩)), some (.pointer (some ⟨b, 0, none⟩)), some (.slice av n capv), some (.int .i64 (n : Nat)), some (.bool false), some (.bool false)] : List (Option Value)).getD j none) (fun _ _ _ => True) (by kernel_rfl) (by kernel_rfl) (by kernel_rfl) (by kernel_rfl) ?rs0 ?rsE ?rsZ
  case rs0 => exact (Below.refl _ _).drew
  case rsE =>
   refine Reg.EachV.plain rfl (fun T X hS hk K hK => ?_) ?_
   ·skip
    have g0 : T[0]? = some (.pointer (some ⟨b, 0, none⟩)) := hk.old 0 (by kernel_rfl) rfl
    have hK := hK _ X hS (Reg.Is.of_val rfl) (fun _ _ _ h => h)
    clear hk
    go_simp
    exact hK
   refine Reg.EachV.plain rfl (fun T X hS hk K hK => ?_) ?_
   ·skip
    have g4 : T[4]? = some (.pointer (some ⟨b, 0, none⟩)) := hk.val 0 4 (by kernel_rfl) (by kernel_rfl) rfl
    have hK := hK _ X hS (Reg.Is.of_val rfl) (fun _ _ _ h => h)
    clear hk
    go_simp
    exact hK
   refine Reg.EachV.plain rfl (fun T X hS hk K hK => ?_) ?_
   ·skip
    have g5 : T[5]? = some (.bool false) := hk.val 1 5 (by kernel_rfl) (by kernel_rfl) rfl
    have hK := hK _ X hS (Reg.Is.of_val rfl) (fun _ _ _ h => h)
    clear hk
    go_simp
    exact hK
   refine Reg.EachV.guarded 2 6 false rfl (by kernel_rfl) (by kernel_rfl) rfl (fun T X hS hk K hK => ?_) ?_
   ·skip
    have g0 : T[0]? = some (.pointer (some ⟨b, 0, none⟩)) := hk.old 0 (by kernel_rfl) rfl
    have hK := hK _ X hS (Reg.Is.of_val rfl) (fun _ _ _ h => h)
    clear hk
    go_simp
    exact hK
   refine Reg.EachV.guarded 2 6 false rfl (by kernel_rfl) (by kernel_rfl) rfl (fun T X hS hk K hK => ?_) ?_
   ·skip
    have g7 : T[7]? = some (.pointer (some ⟨b, 0, none⟩)) := hk.val 3 7 (by kernel_rfl) (by kernel_rfl) rfl
    have hK := hK _ X hS (Reg.Is.of_val rfl) (fun _ _ _ h => h)
    clear hk
    go_simp
    exact hK
   refine Reg.EachV.guarded 2 6 false rfl (by kernel_rfl) (by kernel_rfl) rfl (fun T X hS hk K hK => ?_) ?_
   ·skip
    have g8 : T[8]? = some (.pointer (some ⟨b, 0, none⟩)) := hk.val 4 8 (by kernel_rfl) (by kernel_rfl) rfl
    have hK := hK _ X hS (Reg.Is.of_val rfl) (fun _ _ _ h => h)
    clear hk
    go_simp
    exact hK
   refine Reg.EachV.guarded 2 6 false rfl (by kernel_rfl) (by kernel_rfl) rfl (fun T X hS hk K hK => ?_) ?_
   ·skip
    have g9 : T[9]? = some (.pointer (some ⟨b, 1, none⟩)) := hk.val 5 9 (by kernel_rfl) (by kernel_rfl) rfl
    obtain ⟨⟨c0, c1⟩, _, hbz⟩ := cells2 (HR.out X hS)
    have hK := hK _ X hS (Reg.Is.of_val rfl) (fun _ _ _ h => h)
    clear hk
    go_simp
    exact hK
   refine Reg.EachV.guarded 2 6 false rfl (by kernel_rfl) (by kernel_rfl) rfl (fun T X hS hk K hK => ?_) ?_
   ·skip
    have g10 : T[10]? = some (.slice au m capu) := hk.val 6 10 (by kernel_rfl) (by kernel_rfl) rfl
    have hK := hK _ X hS (Reg.Is.of_val rfl) (fun _ _ _ h => h)
    clear hk
    go_simp
    exact hK
   refine Reg.EachV.guarded 2 6 false rfl (by kernel_rfl) (by kernel_rfl) rfl (fun T X hS hk K hK => ?_) ?_
   ·skip
    have g0 : T[0]? = some (.pointer (some ⟨b, 0, none⟩)) := hk.old 0 (by kernel_rfl) rfl
    have hK := hK _ X hS (Reg.Is.of_val rfl) (fun _ _ _ h => h)
    clear hk
    go_simp
    exact hK
   refine Reg.EachV.guarded 2 6 false rfl (by kernel_rfl) (by kernel_rfl) rfl (fun T X hS hk K hK => ?_) ?_
   ·skip
    have g12 : T[12]? = some (.pointer (some ⟨b, 0, none⟩)) := hk.val 8 12 (by kernel_rfl) (by kernel_rfl) rfl
    have hK := hK _ X hS (Reg.Is.of_val rfl) (fun _ _ _ h => h)
    clear hk
    go_simp
    exact hK
   refine Reg.EachV.guarded 2 6 false rfl (by kernel_rfl) (by kernel_rfl) rfl (fun T X hS hk K hK => ?_) ?_
   ·skip
    have g13 : T[13]? = some (.pointer (some ⟨b, 0, none⟩)) := hk.val 9 13 (by kernel_rfl) (by kernel_rfl) rfl
    have hK := hK _ X hS (Reg.Is.of_val rfl) (fun _ _ _ h => h)
    clear hk
    go_simp
    exact hK
   refine Reg.EachV.guarded 2 6 false rfl (by kernel_rfl) (by kernel_rfl) rfl (fun T X hS hk K hK => ?_) ?_
   ·skip
    have g14 : T[14]? = some (.pointer (some ⟨b, 0, none⟩)) := hk.val 10 14 (by kernel_rfl) (by kernel_rfl) rfl
    obtain ⟨⟨c0, c1⟩, _, hbz⟩ := cells2 (HR.out X hS)
    have hK := hK _ X hS (Reg.Is.of_val rfl) (fun _ _ _ h => h)
    clear hk
    go_simp
    exact hK
   refine Reg.EachV.guarded 2 6 false rfl (by kernel_rfl) (by kernel_rfl) rfl (fun T X hS hk K hK => ?_) ?_
   ·skip
    have g15 : T[15]? = some (.slice av n capv) := hk.val 11 15 (by kernel_rfl) (by kernel_rfl) rfl
    have hK := hK _ X hS (Reg.Is.of_val rfl) (fun _ _ _ h => h)
    clear hk
    go_simp
    exact hK
   refine Reg.EachV.guarded 2 6 false rfl (by kernel_rfl) (by kernel_rfl) rfl (fun T X hS hk K hK => ?_) ?_
   ·skip
    have g11 : T[11]? = some (.int .i64 (m : Nat)) := hk.val 7 11 (by kernel_rfl) (by kernel_rfl) rfl
    have g16 : T[16]? = some (.int .i64 (n : Nat)) := hk.val 12 16 (by kernel_rfl) (by kernel_rfl) rfl
    have hK := hK _ X hS (Reg.Is.of_val rfl) (fun _ _ _ h => h)
    clear hk
    go_simp
    exact hK
   refine Reg.EachV.plain rfl (fun T X hS hk K hK => ?_) ?_
   ·skip
    have g6 : T[6]? = some (.bool false) := hk.val 2 6 (by kernel_rfl) (by kernel_rfl) rfl
    have g17 : T[17]? = some (.bool false) := hk.val 13 17 (by kernel_rfl) (by kernel_rfl) rfl
    have hK := hK _ X hS (Reg.Is.of_val rfl) (fun _ _ _ h => h)
    clear hk
    go_simp
    exact hK
   exact Reg.EachV.nil
  case rsZ =>
   intro u w1 hS hI
   have e0 : u 0 = .pointer (some ⟨b, 0, none⟩) := (hI 0 (by decide)).val rfl
   have e1 : u 1 = .bool false := (hI 1 (by decide)).val rfl
   have e2 : u 2 = .bool false := (hI 2 (by decide)).val rfl
   have e3 : u 3 = .pointer (some ⟨b, 0, none⟩) := (hI 3 (by decide)).val rfl
   have e4 : u 4 = .pointer (some ⟨b, 0, none⟩) := (hI 4 (by decide)).val rfl
   have e5 : u 5 = .pointer (some ⟨b, 1, none⟩) := (hI 5 (by decide)).val rfl
   have e6 : u 6 = .slice au m capu := (hI 6 (by decide)).val rfl
   have e7 : u 7 = .int .i64 (m : Nat) := (hI 7 (by decide)).val rfl
   have e8 : u 8 = .pointer (some ⟨b, 0, none⟩) := (hI 8 (by decide)).val rfl
   have e9 : u 9 = .pointer (some ⟨b, 0, none⟩) := (hI 9 (by decide)).val rfl
   have e10 : u 10 = .pointer (some ⟨b, 0, none⟩) := (hI 10 (by decide)).val rfl
   have e11 : u 11 = .slice av n capv := (hI 11 (by decide)).val rfl
   have e12 : u 12 = .int .i64 (n : Nat) := (hI 12 (by decide)).val rfl
   have e13 : u 13 = .bool false := (hI 13 (by decide)).val rfl
   have e14 : u 14 = .bool false := (hI 14 (by decide)).val rfl
   clear hI
   simp only [Reg.putAll, Act.put, List.setIfInBounds_toArray, List.set_cons_succ, List.set_cons_zero, Nat.zero_add, Nat.reduceAdd, e0, e1, e2, e3, e4, e5, e6, e7, e8, e9, e10, e11, e12, e13, e14]
   clear e0 e1 e2 e3 e4 e5 e6 e7 e8 e9 e10 e11 e12 e13 e14
   have HB := Lib.hid hS
   obtain ⟨⟨c0, c1⟩, _, hbz⟩ := cells2 (HR.out w1 hS)
   have hcv := conv_string (HSL.out.below HB.out)
   clear hS
   go_wp2
   go_ret2
   exact ⟨rfl, HB.out⟩
end Go.Proofs.YtopnckfmdjhbjaaGreatDoor
/- Contracts of word and Text. -/
namespace Go.Proofs.YtopnckfmdjhbjaaGreatDoor
open Go.RowKit

def wordL : Pc → List UInt8
 | .many => [42]
 | .one => [63]
 | .byt p => textL p
def textG (ps : List Pc) : List UInt8 := Lib.join (ps.map wordL) [32]
theorem wordL_len (x : Pc) : (wordL x).length ≤ 1538 := by
 cases x with
 | many => simp [wordL]
 | one => simp [wordL]
 | byt p => exact textL_len p
theorem textG_len (ps : List Pc) (h : ps.length ≤ 1048576) : (textG ps).length ≤ 140737488355328 := by
 unfold textG
 cases hp : ps.map wordL with
 | nil => rw [Lib.join_nil]; simp
 | cons x r =>
  have h2 := lens_le (ps.map wordL) 1538 (fun y hy => by obtain ⟨z, _, rfl⟩ := List.mem_map.1 hy; exact wordL_len z)
  have hl : (ps.map wordL).length = ps.length := List.length_map _
  rw [hp] at h2 hl
  rw [Lib.join_length]
  simp only [List.length_cons, List.length_nil] at *
  omega

set_option maxRecDepth 100000 in
set_option maxHeartbeats 4000000 in
theorem word_any (x : Pc) (w : World) (hT : TZ w) (hD : DB w) :
  Calls Tryz.prog 28 #[x.v] w fun e w' => e = .returned (strV (wordL x)) ∧ Below w.heap.size w w' := by
 cases x with
 | many =>
  rw [many_v]
  go_enter Tryz.func28, Tryz.ntmps28
  go_wp2
  go_ret
  exact ⟨rfl, (Below.refl _ _).alloc (Nat.le_refl _) _⟩
 | one =>
  rw [one_v]
  go_enter Tryz.func28, Tryz.ntmps28
  go_wp2
  go_ret
  exact ⟨rfl, (Below.refl _ _).alloc (Nat.le_refl _) _⟩
 | byt p =>
  have HX : ∀ X, Below w.heap.size w X → Hid (Calls Tryz.prog 45 #[.agg #[.int .u64 (sw p 0 : Nat), .int .u64 (sw p 1 : Nat), .int .u64 (sw p 2 : Nat), .int .u64 (sw p 3 : Nat)]] X fun e w' => e = .returned (strV (textL p)) ∧ Below X.heap.size X w') := fun X hX => Lib.hid (text_any p X (hT.below hX) (hD.below hX))
  have e1 : (Pc.byt p).v = .agg #[.int .i64 1, .int .u64 (sw p 0 : Nat), .int .u64 (sw p 1 : Nat), .int .u64 (sw p 2 : Nat), .int .u64 (sw p 3 : Nat)] := rfl
  rw [e1]
  clear e1 hT hD
  go_enter Tryz.func28, Tryz.ntmps28
  go_wp2_with fail
  refine (HX _ ((Below.refl _ _).alloc (Nat.le_refl _) _)).out.mono ?_
  rintro e w1 ⟨rfl, hb1⟩
  have HB := Lib.hid (((Below.refl w.heap.size w).alloc (Nat.le_refl _) _).trans (hb1.mono (by simp)))
  clear hb1
  unfold strV
  go_wp2
  go_ret
  exact ⟨rfl, HB.out⟩

theorem cellsL_at : ∀ (ps : List Pc) (k : Nat) (x : Pc), ps[k]? = some x → ∀ i, i < 5 → (cellsL ps)[k * 5 + i]? = x.cells[i]?
 | [], k, x, h, _, _ => by simp at h
 | y :: r, 0, x, h, i, hi => by
  simp only [List.getElem?_cons_zero, Option.some.injEq] at h
  subst h
  rw [Nat.zero_mul, Nat.zero_add]
  show (y.cells ++ cellsL r)[i]? = _
  rw [List.getElem?_append_left (by exact hi)]
 | y :: r, k + 1, x, h, i, hi => by
  have ih := cellsL_at r k x (by simpa using h) i hi
  show (y.cells ++ cellsL r)[(k + 1) * 5 + i]? = _
  rw [List.getElem?_append_right (by show 5 ≤ _; omega), ← ih]
  congr 1
  show (k + 1) * 5 + i - 5 = _
  omega
/-- The cells of a piece in its row. -/
theorem row_at {X : World} {B g n capv : Nat} {ps : List Pc} (h : X.ownsRow B 55 5 (.slice (some ⟨g, 0, none⟩) n capv) n (cellsL ps)) {k : Nat} {x : Pc} (hk : ps[k]? = some x) (i : Nat) (hi : i < 5) (y : Value) (hy : x.cells[i]? = some y) : X.cell? ⟨g, k * 5 + i, none⟩ = some y := by
 have := h.cells (g := g) rfl (k * 5 + i) y (by rw [cellsL_at ps k x hk i hi, hy])
 rw [WideShapes.add_plain, Nat.zero_add] at this
 exact this

/-- The loop's state: so many words are written. -/
structure TgI (w : World) (b wb : Nat) (ps : List Pc) (k : Nat) (X : World) : Prop where
 hk : k ≤ ps.length
 bel : Below w.heap.size w X
 ge : w.heap.size ≤ wb
 row : ∃ cs, X.heap[wb]? = some (.cells cs 9 (0, 0)) ∧ cs.size = ps.length ∧ ∀ j x, j < k → ps[j]? = some x → cs[j]? = some (strV (wordL x))

set_option maxRecDepth 100000 in
set_option maxHeartbeats 8000000 in
theorem gtext_any (B b : Nat) (ps : List Pc) (w : World) (h : PatAt B b ps w) (hl : ps.length ≤ 1048576) (hT : TZ w) (hD : DB w) :
  Calls Tryz.prog 11 #[.pointer (some ⟨b, 0, none⟩)] w fun x w' => x = .returned (strV (textG ps)) ∧ Below w.heap.size w w' := by
 obtain ⟨hB, v, u, hpb, hrow, hplain⟩ := h
 obtain ⟨i1, ki, kz0, kz1, kz2⟩ := info_parts string_row
 have HPB := Lib.hid hpb
 have HROW := Lib.hid hrow
 obtain ⟨n, hn⟩ : ∃ n, n = ps.length := ⟨_, rfl⟩
 have HN := Lib.hid hn
 obtain ⟨av, capv, hv⟩ := own_shapeK hrow
 rw [← hn] at hl hv
 obtain ⟨⟨c0, c1⟩, _, hbz⟩ := cells2 hpb
 rw [hv] at c0
 have HT := Lib.hid hT
 have HD := Lib.hid hD
 clear hT hD hpb hrow hplain hn
 go_enter Tryz.func11, Tryz.ntmps11
 go_wp2_with (at_make; refine wpList_make_row _ rfl _ _ 71 rfl 9 i1 (.string ⟨#[]⟩) Tryz.underlying71 ki kz0 kz1 rfl _ _ n rfl rfl (by rw [kz2]; omega) (by omega) ?_)
 go_loopw [19] (fun i X => ∃ k, i = .int .i64 (k : Nat) ∧ TgI w b w.heap.size ps k X) (fun i _ => n - (intOf i).toNat)
 case atStart =>
  exact ⟨0, rfl, Nat.zero_le _, (Below.refl _ _).alloc (Nat.le_refl _) _, Nat.le_refl _, _, alloc_last w _, by rw [← HN.out]; simp [madeCells], fun j x hj => absurd hj (by omega)⟩
 case round =>
  obtain ⟨k, rfl, hI⟩ := hrel
  have hk := hI.hk
  rw [← HN.out] at hk
  have HI := Lib.hid hI
  clear hI c0 c1
  by_cases hlt : k < n
  ·have hltL : k < ps.length := by rw [← HN.out]; exact hlt
   obtain ⟨x, hx⟩ : ∃ x, ps[k]? = some x := ⟨ps[k], List.getElem?_eq_getElem hltL⟩
   have hro := HROW.out
   rw [hv] at hro
   rw [← HN.out] at hro
   obtain ⟨g, hg⟩ : ∃ g, av = some ⟨g, 0, none⟩ := by
    rcases hro.2 with ⟨_, h0⟩ | ⟨g, cap', cur, e, _⟩
    ·omega
    ·simp only [Value.slice.injEq] at e
     exact ⟨g, e.1⟩
   subst hg
   have hro2 := own_drop hro HI.out.bel
   have p0 := row_at hro2 hx 0 (by decide) _ rfl
   have p1 := row_at hro2 hx 1 (by decide) _ rfl
   have p2 := row_at hro2 hx 2 (by decide) _ rfl
   have p3 := row_at hro2 hx 3 (by decide) _ rfl
   have p4 := row_at hro2 hx 4 (by decide) _ rfl
   rw [Nat.add_zero] at p0
   have hkI : (k : Int) < (n : Int) := by omega
   have HXX := Lib.hid hx
   clear hro hro2 hx
   have HWD : ∀ X, Below w.heap.size w X → Hid (Calls Tryz.prog 28 #[.agg #[.int .i64 x.kind, .int .u64 (sw x.set 0 : Nat), .int .u64 (sw x.set 1 : Nat), .int .u64 (sw x.set 2 : Nat), .int .u64 (sw x.set 3 : Nat)]] X fun e w' => e = .returned (strV (wordL x)) ∧ Below X.heap.size X w') := fun X hX => Lib.hid (word_any x X (HT.out.below hX) (HD.out.below hX))
   go_wp2_with fail
   refine (HWD _ (HI.out.bel.alloc HI.out.bel.size _)).out.mono ?_
   rintro e w1 ⟨rfl, hb1⟩
   have HB1 := Lib.hid (below_thn (HI.out.bel.alloc HI.out.bel.size (.cells #[.int .i64 x.kind, .int .u64 (sw x.set 0 : Nat), .int .u64 (sw x.set 1 : Nat), .int .u64 (sw x.set 2 : Nat), .int .u64 (sw x.set 3 : Nat)] 55)) (Nat.le_refl _) hb1)
   obtain ⟨cs, hcb, hcz, hca⟩ := HI.out.row
   have HCB := Lib.hid (blk_below (blk_alloc hcb (.cells #[.int .i64 x.kind, .int .u64 (sw x.set 0 : Nat), .int .u64 (sw x.set 1 : Nat), .int .u64 (sw x.set 2 : Nat), .int .u64 (sw x.set 3 : Nat)] 55)) hb1)
   have HCA := Lib.hid hca
   have hcz' : cs.size = n := by rw [hcz, HN.out]
   obtain ⟨old, hold⟩ : ∃ old, cs[k]? = some old := ⟨cs[k]'(by omega), Array.getElem?_eq_getElem (by omega)⟩
   have hck : w1.cell? ⟨w.heap.size, k, none⟩ = some old := by rw [Lib.cell_of_heap HCB.out]; exact hold
   have hfk : w1.frozen? ⟨w.heap.size, k, none⟩ = false := Lib.frozen_of_heap HCB.out k
   have HS2 : Hid (TgI w b w.heap.size ps (k + 1) (w1.setCell ⟨w.heap.size, k, none⟩ (strV (wordL x)))) := by
    refine Lib.hid ⟨by omega, HB1.out.setCell (Nat.le_refl _) _, Nat.le_refl _, cs.setIfInBounds k (strV (wordL x)), ?_, by simpa using hcz, fun j y hj hy => ?_⟩
    ·show (w1.heap.modify _ _)[w.heap.size]? = _
     rw [Array.getElem?_modify, if_pos rfl, HCB.out]
     rfl
    ·rw [Array.getElem?_setIfInBounds]
     by_cases hjk : k = j
     ·subst hjk
      rw [HXX.out] at hy
      obtain rfl := Option.some.inj hy
      rw [if_pos rfl, if_pos (by omega)]
     ·rw [if_neg hjk]
      exact HCA.out j y (by omega) hy
   clear hb1 hcb hcz hca p0 p1 p2 p3 p4 hold
   unfold strV at *
   go_wp2
   go_roundw
   case rel => exact ⟨k + 1, by go_num, HS2.out⟩
   case measure => simp [intOf]; omega
  ·have hke : k = ps.length := by rw [← HN.out]; omega
   obtain ⟨cs, hcb, hcz, hca⟩ := HI.out.row
   have hm : (ps.map fun x => (⟨(wordL x).toArray⟩ : ByteArray)).map (·.data.toList) = ps.map wordL := by
    rw [List.map_map]
    congr 1
   have HJ : Hid (Calls Tryz.prog 29 #[.slice (some ⟨w.heap.size, 0, none⟩) n n, .string ⟨#[32]⟩] wr fun e w' => e = .returned (.string ⟨(textG ps).toArray⟩) ∧ Below wr.heap.size wr w') := by
    have := Tryz.strings_Join w.heap.size 0 n (ps.map fun x => (⟨(wordL x).toArray⟩ : ByteArray)) ⟨#[32]⟩ wr (fun j x hx => ?_) (lt_blkB hcb) (by simp; rw [← HN.out]; omega) (by simp; rw [← HN.out]; exact Nat.le_refl _) (by rw [hm]; exact textG_len ps (by rw [← HN.out]; omega))
    ·rw [hm, List.length_map, ← HN.out] at this
     exact Lib.hid this
    ·rw [Lib.cell_of_heap hcb, Nat.zero_add]
     rw [List.getElem?_map, Option.map_eq_some_iff] at hx
     obtain ⟨y, hy, rfl⟩ := hx
     exact hca j y (by rw [hke]; exact (List.getElem?_eq_some_iff.1 hy).1) hy
   have HB := Lib.hid HI.out.bel
   clear hcb hcz hca hm
   go_wp2_with fail
   refine HJ.out.mono ?_
   rintro e w1 ⟨rfl, hb1⟩
   have HBE := Lib.hid (below_thn HB.out (Nat.le_refl _) hb1)
   clear hb1
   go_wp2
   go_ret
   exact ⟨rfl, HBE.out⟩
end Go.Proofs.YtopnckfmdjhbjaaGreatDoor
namespace Go.Proofs.YtopnckfmdjhbjaaGreatDoor
open Go.RowKit

def awG : List Int := [97, 42, 91, 98, 45, 100, 93]
theorem aw_brk (cf : ByteArray → (Nat → Bool) × Bool) : brkR cf (ofBys [98, 45, 100, 93]) true 0 = .ok (orP noP (rng 98 100)) 4 := by kernel_rfl
theorem aw_step0 (cf : ByteArray → (Nat → Bool) × Bool) : stepG cf awG 0 = (.byt (mem [97]), 1) := by kernel_rfl
theorem aw_step1 (cf : ByteArray → (Nat → Bool) × Bool) : stepG cf awG 1 = (.many, 1) := by kernel_rfl
theorem aw_step2 (cf : ByteArray → (Nat → Bool) × Bool) : stepG cf awG 2 = (.byt (orP noP (rng 98 100)), 5) := by
 have e : awG.drop (2 + 1) = [98, 45, 100, 93] := rfl
 unfold stepG
 rw [e, aw_brk]
 rfl
theorem aw_glP (cf : ByteArray → (Nat → Bool) × Bool) : glP cf awG = [.byt (mem [97]), .many, .byt (orP noP (rng 98 100))] := by
 unfold glP
 rw [glN_step cf awG 0 (by decide), aw_step0, glN_step cf awG (0 + 1) (by decide), aw_step1, glN_step cf awG (0 + 1 + 1) (by decide), aw_step2, glN_end cf awG _ (by decide)]
theorem aw_text : (⟨(textG [.byt (mem [97]), .many, .byt (orP noP (rng 98 100))]).toArray⟩ : ByteArray) = ⟨#[91, 54, 49, 93, 32, 42, 32, 91, 54, 50, 45, 54, 52, 93]⟩ := by kernel_rfl
theorem aw_sl (w : World) (z : Nat × Nat) : Sl (w.alloc (.cells #[.int .u8 97, .int .u8 42, .int .u8 91, .int .u8 98, .int .u8 45, .int .u8 100, .int .u8 93] 5 z)) (.slice (some ⟨w.heap.size, 0, none⟩) 7 7) awG := by
 refine ⟨?_, by decide, Or.inr ⟨w.heap.size, 0, 7, rfl, by decide, by decide, ?_⟩⟩
 ·refine byt_of fun c hc => ?_
  unfold awG at hc
  simp only [List.mem_cons, List.not_mem_nil, or_false] at hc
  omega
 ·intro i hi
  have hi' : i < 7 := hi
  have hb := alloc_last w (.cells #[.int .u8 97, .int .u8 42, .int .u8 91, .int .u8 98, .int .u8 45, .int .u8 100, .int .u8 93] 5 z)
  unfold awG
  rcases (by omega : i = 0 ∨ i = 1 ∨ i = 2 ∨ i = 3 ∨ i = 4 ∨ i = 5 ∨ i = 6) with rfl | rfl | rfl | rfl | rfl | rfl | rfl
  all_goals exact (cell_of_row _ _ _ _ _ _ hb).trans rfl

set_option maxRecDepth 100000 in
set_option maxHeartbeats 8000000 in
theorem awake6_any (cf : ByteArray → (Nat → Bool) × Bool) (hcf : ClassOk cf) (e : Nat → Addr) (w : World) (he : Es w w.heap.size e) (hT : TZ w) (hD : DB w) :
  Calls Tryz.prog 8 #[] w fun x w' => x = .returned (.bool true) ∧ Below w.heap.size w w' := by
 have HE := Lib.hid he
 have HT := Lib.hid hT
 have HD := Lib.hid hD
 have HCF := Lib.hid hcf
 have HTX := Lib.hid aw_text
 have kc := fun (w : World) (C : Array Value) (n c : Nat) => Lib.run_convert_bytes_const (P := Tryz.prog) w 22 5 C n c Tryz.underlying22 Tryz.underlying5
 have HP : ∀ (X : World) (z : Nat × Nat), Below w.heap.size w (X.alloc (.cells #[.int .u8 97, .int .u8 42, .int .u8 91, .int .u8 98, .int .u8 45, .int .u8 100, .int .u8 93] 5 z)) → Hid (Calls Tryz.prog 5 #[.slice (some ⟨X.heap.size, 0, none⟩) 7 7] (X.alloc (.cells #[.int .u8 97, .int .u8 42, .int .u8 91, .int .u8 98, .int .u8 45, .int .u8 100, .int .u8 93] 5 z)) fun x w' => ∃ b, x = .returned (.tuple #[.pointer (some ⟨b, 0, none⟩), .nilIface]) ∧ PatAt (X.heap.size + 1) b [.byt (mem [97]), .many, .byt (orP noP (rng 98 100))] w' ∧ Below (X.heap.size + 1) (X.alloc (.cells #[.int .u8 97, .int .u8 42, .int .u8 91, .int .u8 98, .int .u8 45, .int .u8 100, .int .u8 93] 5 z)) w') := fun X z hX => by
  have h := parse_ok cf HCF.out e _ awG _ ⟨(HE.out.below hX).var, Nat.lt_of_lt_of_le HE.out.low hX.size, Nat.le_refl _⟩ (HT.out.below hX) (aw_sl X z) (by decide)
  rw [aw_glP] at h
  simp only [World.size_alloc] at h
  exact Lib.hid h
 clear he hT hD hcf
 go_enter Tryz.func8, Tryz.ntmps8
 go_wp2_with fail
 refine (HP _ _ ((Below.refl _ _).alloc (Nat.le_refl _) _)).out.mono ?_
 rintro x w1 ⟨b, rfl, hp, hb1⟩
 have HB1 := Lib.hid (((Below.refl w.heap.size w).alloc (Nat.le_refl _) _).trans (hb1.mono (Nat.le_succ _)))
 have HG := Lib.hid (gtext_any _ b _ w1 hp (by simp) (HT.out.below HB1.out) (HD.out.below HB1.out))
 clear hb1 hp
 go_wp2_with fail
 refine HG.out.mono ?_
 rintro x w2 ⟨rfl, hb2⟩
 have HB2 := Lib.hid (below_thn HB1.out (Nat.le_refl _) hb2)
 clear hb2
 unfold strV
 rw [HTX.out]
 go_wp2
 go_ret
 exact ⟨rfl, HB2.out⟩
end Go.Proofs.YtopnckfmdjhbjaaGreatDoor
