/- The contract of set.Text (gen_text.py). -/
import Derived.Test.YthmgcebonplcgaaGreatDoorSeHex
import Derived.Test.YthmgcebonplcgaaGreatDoorShelf
import Derived.Test.YthmgcebonplcgaaGreatDoorGlPat
namespace Go.Proofs.YthmgcebonplcgaaGreatDoor
open Go.RowKit

def ltP (n c : Nat) : Bool := decide (c < n)
def butP (p q : Nat → Bool) (c : Nat) : Bool := p c && !q c
def strV (x : List UInt8) : Value := .string ⟨x.toArray⟩
theorem string_row : (Tryz.prog.info? 9).map (fun i => (i.zero, i.size, i.bytes)) = some (some (.string ⟨#[]⟩), 1, 16) := by kernel_rfl
/-- Join over a row of the call's own. -/
theorem join_own {B : Nat} {v : Value} {dn : List (List UInt8)} (sep : ByteArray) (w : World) (h : w.ownsRow B 9 1 v dn.length (dn.map strV)) (hN : dn.length ≤ 1048576) (hlen : (Lib.join dn sep.data.toList).length ≤ 140737488355328) :
    Calls Tryz.prog 35 #[v, .string sep] w fun e w' => e = .returned (.string ⟨(Lib.join dn sep.data.toList).toArray⟩) ∧ Below w.heap.size w w' := by
  obtain ⟨_, ⟨rfl, h0⟩ | ⟨g, cap, cur, rfl, _, hg, hnc, _, hcz, htk⟩⟩ := h
  · have : dn = [] := List.length_eq_zero_iff.1 h0
    subst this
    refine (Tryz.strings_Join_none none 0 sep w).mono fun e w' h => ?_
    obtain ⟨rfl, rfl⟩ := h
    exact ⟨rfl, Below.refl _ _⟩
  · have hm : (dn.map fun x => (⟨x.toArray⟩ : ByteArray)).map (·.data.toList) = dn := by
      rw [List.map_map]
      have : ((fun b : ByteArray => b.data.toList) ∘ fun x : List UInt8 => (⟨x.toArray⟩ : ByteArray)) = id := by funext x; simp
      rw [this, List.map_id]
    have := Tryz.strings_Join g 0 cap (dn.map fun x => (⟨x.toArray⟩ : ByteArray)) sep w (fun j x hx => ?_) (lt_blkB hg) (by simp; omega) (by simp; omega) (by rw [hm]; exact hlen)
    · rw [hm, List.length_map] at this
      exact this
    · rw [Lib.cell_of_heap hg, Nat.zero_add]
      rw [List.getElem?_map, Option.map_eq_some_iff] at hx
      obtain ⟨y, hy, rfl⟩ := hx
      have hj : j < dn.length := (List.getElem?_eq_some_iff.1 hy).1
      have h1 := congrArg (fun l => l[j]?) htk
      simp only [List.getElem?_map, hy, Option.map_some] at h1
      rw [List.getElem?_take, if_pos (by omega)] at h1
      simpa [strV] using h1

theorem set_ne (q : Nat → Bool) (c : Nat) (hc : c < 256) (h : q c = true) (w : World) :
    (Op.equalIn 10000 36 (.agg #[.int .u64 (sw (q) 0 : Nat), .int .u64 (sw (q) 1 : Nat), .int .u64 (sw (q) 2 : Nat), .int .u64 (sw (q) 3 : Nat)]) (.agg #[.int .u64 0, .int .u64 0, .int .u64 0, .int .u64 0])).run Tryz.prog w = .ok false w := by
  rw [eq_arr 9998]
  congr 1
  cases hb : (((sw q 0 : Nat) : Int) == 0) && ((((sw q 1 : Nat) : Int) == 0) && ((((sw q 2 : Nat) : Int) == 0) && (((sw q 3 : Nat) : Int) == 0))) with
  | false => rfl
  | true =>
    exfalso
    simp only [Bool.and_eq_true, beq_iff_eq] at hb
    obtain ⟨h0, h1, h2, h3⟩ := hb
    have hz : ∀ i, i < 4 → sw q i = 0 := fun i hi => by
      rcases (by omega : i = 0 ∨ i = 1 ∨ i = 2 ∨ i = 3) with rfl | rfl | rfl | rfl <;> omega
    have := sw_zero_of q (c / 64) (hz _ (by omega)) (c % 64) (Nat.mod_lt _ (by decide))
    rw [Nat.div_add_mod, h] at this
    cases this

/-- The loop's state: what is done, what is left. -/
structure TxI (w : World) (p : Nat → Bool) (k : Nat) (dn : List (List UInt8)) (v : Value) (X : World) : Prop where
  hk : k ≤ 256
  spl : dn ++ runsN p 257 k = runs p
  bel : Below w.heap.size w X
  blk : X.heap[w.heap.size]? = some (.cells #[.int .u64 (sw (fromK p k) 0 : Nat), .int .u64 (sw (fromK p k) 1 : Nat), .int .u64 (sw (fromK p k) 2 : Nat), .int .u64 (sw (fromK p k) 3 : Nat)] 36 (0, 0))
  own : X.ownsRow w.heap.size 9 1 v dn.length (dn.map strV)
/-- The state within the last region: the set is stored (4). -/
structure TxS (w : World) (p : Nat → Bool) (k e : Nat) (dn : List (List UInt8)) (v : Value) (d4 : Bool) (X : World) : Prop where
  bel : Below w.heap.size w X
  old : d4 = false → X.heap[w.heap.size]? = some (.cells #[.int .u64 (sw (fromK p k) 0 : Nat), .int .u64 (sw (fromK p k) 1 : Nat), .int .u64 (sw (fromK p k) 2 : Nat), .int .u64 (sw (fromK p k) 3 : Nat)] 36 (0, 0))
  new : d4 = true → X.heap[w.heap.size]? = some (.cells #[.int .u64 (sw (fromK p e) 0 : Nat), .int .u64 (sw (fromK p e) 1 : Nat), .int .u64 (sw (fromK p e) 2 : Nat), .int .u64 (sw (fromK p e) 3 : Nat)] 36 (0, 0))
  own : X.ownsRow w.heap.size 9 1 v dn.length (dn.map strV)
theorem own_shapeT {w : World} {base : Nat} {e : TypeId} {s : Nat} {v : Value} {n : Nat} {xs : List Value} (h : w.ownsRow base e s v n xs) : ∃ a0 cap, v = .slice a0 n cap := by
  obtain ⟨h1, ⟨rfl, rfl⟩ | ⟨g, cap, cur, rfl, _⟩⟩ := h
  · exact ⟨none, 0, rfl⟩
  · exact ⟨_, cap, rfl⟩
theorem own_set4 {X : World} {B : Nat} {e T : TypeId} {s : Nat} {v : Value} {n : Nat} {xs : List Value} {b : Nat} {a0 a1 a2 a3 : Value} (hown : X.ownsRow B e s v n xs) (hb : X.heap[b]? = some (.cells #[a0, a1, a2, a3] T (0, 0))) (hT : T ≠ e) (y0 y1 y2 y3 : Value) :
    ((((X.setCell ⟨b, 0, none⟩ y0).setCell ⟨b, 1, none⟩ y1).setCell ⟨b, 2, none⟩ y2).setCell ⟨b, 3, none⟩ y3).ownsRow B e s v n xs := by
  have st : ∀ (Z : World) (cs : Array Value) (i : Nat) (y : Value), Z.heap[b]? = some (.cells cs T (0, 0)) → (Z.setCell ⟨b, i, none⟩ y).heap[b]? = some (.cells (cs.setIfInBounds i y) T (0, 0)) := fun Z cs i y hx => by
    show (Z.heap.modify b _)[b]? = _
    rw [Array.getElem?_modify, if_pos rfl, hx]
    rfl
  have h1 := st _ _ 0 y0 hb
  have h2 := st _ _ 1 y1 h1
  have h3 := st _ _ 2 y2 h2
  exact own_set (own_set (own_set (own_set hown hb hT 0 y0) h1 hT 1 y1) h2 hT 2 y2) h3 hT 3 y3
theorem run_one (lo e : Nat) (h : ¬ lo + 1 < e) : (⟨(hex2 lo).toArray⟩ : ByteArray) = ⟨(runT lo e).toArray⟩ := by unfold runT; rw [if_neg h, List.append_nil]
theorem run_two (lo e : Nat) (h : lo + 1 < e) : (⟨(hex2 lo).toArray⟩ : ByteArray) ++ ((⟨#[45]⟩ : ByteArray) ++ ⟨(hex2 (e - 1)).toArray⟩) = ⟨(runT lo e).toArray⟩ := by
  unfold runT
  rw [if_pos h]
  apply ByteArray.ext
  simp [hex2]

set_option maxRecDepth 100000 in
set_option maxHeartbeats 16000000 in
theorem text_any (p : Nat → Bool) (w : World) (hT : TZ w) (hD : DB w) :
    Calls Tryz.prog 32 #[SV p] w fun e w' => e = .returned (.string (textS p)) ∧ Below w.heap.size w w' := by
  obtain ⟨i1, ki, kz0, kz1, kz2⟩ := info_parts string_row
  have HT := Lib.hid hT
  have HD := Lib.hid hD
  have hrl := runs_len p
  have HRL := Lib.hid hrl
  have e0 : Hid (SV p = SV (fromK p 0)) := Lib.hid (SV_congr fun c _ => by unfold fromK; simp)
  rw [e0.out]
  clear hT hD hrl
  unfold SV
  go_enter Tryz.func32, Tryz.ntmps32
  go_wp2_with fail
  go_loopw [3] (fun v X => ∃ k dn, TxI w p k dn v X) (fun v _ => match v with | .slice _ n _ => 257 - n | _ => 0)
  case atStart => exact ⟨0, [], by omega, rfl, (Below.refl _ _).alloc (Nat.le_refl _) _, alloc_last w _, World.ownsRow_nil _ _ _ _⟩
  case round =>
    obtain ⟨k, dn, hI⟩ := hrel
    obtain ⟨⟨c0, c1, c2, c3⟩, _, hbz⟩ := cells4 hI.blk
    have HI := Lib.hid hI
    obtain ⟨a0, cap0, hv0⟩ := own_shapeT hI.own
    have hdl : dn.length ≤ 256 := by have h1 := congrArg List.length hI.spl; rw [List.length_append] at h1; have := HRL.out.1; omega
    clear hI
    subst hv0
    by_cases hl : fst p k < 256
    · have hge := fst_ge p k
      have hit := fst_hit p k HI.out.hk hl
      have hgt := end_gt p _ hl hit
      have hle := fst_le (notP p) (fst p k) (by omega)
      have HNE := set_ne (fromK p k) (fst p k) hl (by unfold fromK; rw [hit]; simpa using hge)
      have HF1 : Hid (fst (fromK p k) 0 = fst p k) := Lib.hid (fst_from p k HI.out.hk)
      have HF2 : Hid (fst (butP (notP (fromK p k)) (ltP (fst p k))) 0 = fst (notP p) (fst p k)) := Lib.hid (fst_end p k (fst p k) hge (by omega))
      have HST : Hid (runsN p 257 k = runT (fst p k) (fst (notP p) (fst p k)) :: runsN p 257 (fst (notP p) (fst p k))) := Lib.hid (runsN_step p k HI.out.hk hl)
      have HSN : Hid (SV (butP (fromK p k) (ltP (fst (notP p) (fst p k)))) = SV (fromK p (fst (notP p) (fst p k)))) := Lib.hid (SV_congr (from_next p k _ (by omega)))
      have HL1 : ∀ X, TZ X → Hid (Calls Tryz.prog 55 #[.agg #[.int .u64 (sw (fromK p k) 0 : Nat), .int .u64 (sw (fromK p k) 1 : Nat), .int .u64 (sw (fromK p k) 2 : Nat), .int .u64 (sw (fromK p k) 3 : Nat)]] X fun e w' => e = .returned (.int .i64 (fst p k : Nat)) ∧ Below X.heap.size X w') := fun X hX => Lib.hid (by have := least_any (fromK p k) X hX; rw [HF1.out] at this; exact this)
      have HL2 : ∀ X, TZ X → Hid (Calls Tryz.prog 55 #[.agg #[.int .u64 (sw (butP (notP (fromK p k)) (ltP (fst p k))) 0 : Nat), .int .u64 (sw (butP (notP (fromK p k)) (ltP (fst p k))) 1 : Nat), .int .u64 (sw (butP (notP (fromK p k)) (ltP (fst p k))) 2 : Nat), .int .u64 (sw (butP (notP (fromK p k)) (ltP (fst p k))) 3 : Nat)]] X fun e w' => e = .returned (.int .i64 (fst (notP p) (fst p k) : Nat)) ∧ Below X.heap.size X w') := fun X hX => Lib.hid (by have := least_any (butP (notP (fromK p k)) (ltP (fst p k))) X hX; rw [HF2.out] at this; exact this)
      have HNT : ∀ X, Hid (Calls Tryz.prog 54 #[.agg #[.int .u64 (sw (fromK p k) 0 : Nat), .int .u64 (sw (fromK p k) 1 : Nat), .int .u64 (sw (fromK p k) 2 : Nat), .int .u64 (sw (fromK p k) 3 : Nat)]] X fun e w' => e = .returned (.agg #[.int .u64 (sw (notP (fromK p k)) 0 : Nat), .int .u64 (sw (notP (fromK p k)) 1 : Nat), .int .u64 (sw (notP (fromK p k)) 2 : Nat), .int .u64 (sw (notP (fromK p k)) 3 : Nat)]) ∧ Below X.heap.size X w') := fun X => Lib.hid (not_any (fromK p k) X)
      have HB1 : ∀ X, Hid (Calls Tryz.prog 57 #[.int .i64 (fst p k : Nat)] X fun e w' => e = .returned (.agg #[.int .u64 (sw (ltP (fst p k)) 0 : Nat), .int .u64 (sw (ltP (fst p k)) 1 : Nat), .int .u64 (sw (ltP (fst p k)) 2 : Nat), .int .u64 (sw (ltP (fst p k)) 3 : Nat)]) ∧ Below X.heap.size X w') := fun X => Lib.hid (below_any (fst p k) (by omega) X)
      have HB2 : ∀ X, Hid (Calls Tryz.prog 57 #[.int .i64 (fst (notP p) (fst p k) : Nat)] X fun e w' => e = .returned (.agg #[.int .u64 (sw (ltP (fst (notP p) (fst p k))) 0 : Nat), .int .u64 (sw (ltP (fst (notP p) (fst p k))) 1 : Nat), .int .u64 (sw (ltP (fst (notP p) (fst p k))) 2 : Nat), .int .u64 (sw (ltP (fst (notP p) (fst p k))) 3 : Nat)]) ∧ Below X.heap.size X w') := fun X => Lib.hid (below_any (fst (notP p) (fst p k)) hle X)
      have HW1 : ∀ X, Hid (Calls Tryz.prog 56 #[.agg #[.int .u64 (sw (notP (fromK p k)) 0 : Nat), .int .u64 (sw (notP (fromK p k)) 1 : Nat), .int .u64 (sw (notP (fromK p k)) 2 : Nat), .int .u64 (sw (notP (fromK p k)) 3 : Nat)], .agg #[.int .u64 (sw (ltP (fst p k)) 0 : Nat), .int .u64 (sw (ltP (fst p k)) 1 : Nat), .int .u64 (sw (ltP (fst p k)) 2 : Nat), .int .u64 (sw (ltP (fst p k)) 3 : Nat)]] X fun e w' => e = .returned (.agg #[.int .u64 (sw (butP (notP (fromK p k)) (ltP (fst p k))) 0 : Nat), .int .u64 (sw (butP (notP (fromK p k)) (ltP (fst p k))) 1 : Nat), .int .u64 (sw (butP (notP (fromK p k)) (ltP (fst p k))) 2 : Nat), .int .u64 (sw (butP (notP (fromK p k)) (ltP (fst p k))) 3 : Nat)]) ∧ Below X.heap.size X w') := fun X => Lib.hid (without_any (notP (fromK p k)) (ltP (fst p k)) X)
      have HW2 : ∀ X, Hid (Calls Tryz.prog 56 #[.agg #[.int .u64 (sw (fromK p k) 0 : Nat), .int .u64 (sw (fromK p k) 1 : Nat), .int .u64 (sw (fromK p k) 2 : Nat), .int .u64 (sw (fromK p k) 3 : Nat)], .agg #[.int .u64 (sw (ltP (fst (notP p) (fst p k))) 0 : Nat), .int .u64 (sw (ltP (fst (notP p) (fst p k))) 1 : Nat), .int .u64 (sw (ltP (fst (notP p) (fst p k))) 2 : Nat), .int .u64 (sw (ltP (fst (notP p) (fst p k))) 3 : Nat)]] X fun e w' => e = .returned (.agg #[.int .u64 (sw (fromK p (fst (notP p) (fst p k))) 0 : Nat), .int .u64 (sw (fromK p (fst (notP p) (fst p k))) 1 : Nat), .int .u64 (sw (fromK p (fst (notP p) (fst p k))) 2 : Nat), .int .u64 (sw (fromK p (fst (notP p) (fst p k))) 3 : Nat)]) ∧ Below X.heap.size X w') := fun X => Lib.hid (by have := without_any (fromK p k) (ltP (fst (notP p) (fst p k))) X; have e : SV (butP (fromK p k) (ltP (fst (notP p) (fst p k)))) = SV (fromK p (fst (notP p) (fst p k))) := HSN.out; exact this.mono fun _ _ h => ⟨h.1.trans (congrArg Ending.returned e), h.2⟩)
      have HX1 : ∀ X, DB X → Hid (Calls Tryz.prog 58 #[.int .i64 (fst p k : Nat)] X fun e w' => e = .returned (.string ⟨(hex2 (fst p k)).toArray⟩) ∧ Below X.heap.size X w') := fun X hX => Lib.hid (hex_any (fst p k) hl X hX)
      have HX2 : ∀ X, DB X → Hid (Calls Tryz.prog 58 #[.int .i64 ((fst (notP p) (fst p k) : Nat) - 1 : Int)] X fun e w' => e = .returned (.string ⟨(hex2 (fst (notP p) (fst p k) - 1)).toArray⟩) ∧ Below X.heap.size X w') := fun X hX => Lib.hid (by have := hex_any (fst (notP p) (fst p k) - 1) (by omega) X hX; rw [show ((fst (notP p) (fst p k) - 1 : Nat) : Int) = ((fst (notP p) (fst p k) : Nat) - 1 : Int) by omega] at this; exact this)
      have HR1 := fun h => Lib.hid (run_one (fst p k) (fst (notP p) (fst p k)) h)
      have HR2 := fun h => Lib.hid (run_two (fst p k) (fst (notP p) (fst p k)) h)
      have hs1 : (⟨(hex2 (fst p k)).toArray⟩ : ByteArray).size = 2 := rfl
      have hs2 : (⟨(hex2 (fst (notP p) (fst p k) - 1)).toArray⟩ : ByteArray).size = 2 := rfl
      generalize (⟨(hex2 (fst p k)).toArray⟩ : ByteArray) = s1 at *
      generalize (⟨(hex2 (fst (notP p) (fst p k) - 1)).toArray⟩ : ByteArray) = s2 at *
      generalize fst (notP p) (fst p k) = e at *
      generalize fst p k = lo at *
      clear HF1 HF2 HSN hit
      have HKP : ∀ X X', Below w.heap.size w X → X.heap[w.heap.size]? = some (.cells #[.int .u64 (sw (fromK p k) 0 : Nat), .int .u64 (sw (fromK p k) 1 : Nat), .int .u64 (sw (fromK p k) 2 : Nat), .int .u64 (sw (fromK p k) 3 : Nat)] 36 (0, 0)) → X.ownsRow w.heap.size 9 1 (.slice a0 dn.length cap0) dn.length (dn.map strV) → Below X.heap.size X X' → Below w.heap.size w X' ∧ X'.heap[w.heap.size]? = some (.cells #[.int .u64 (sw (fromK p k) 0 : Nat), .int .u64 (sw (fromK p k) 1 : Nat), .int .u64 (sw (fromK p k) 2 : Nat), .int .u64 (sw (fromK p k) 3 : Nat)] 36 (0, 0)) ∧ X'.ownsRow w.heap.size 9 1 (.slice a0 dn.length cap0) dn.length (dn.map strV) := fun X X' h1 h2 h3 hb => ⟨below_thn h1 (Nat.le_refl _) hb, blk_below h2 hb, own_drop h3 hb⟩
      have HKPH := Lib.hid HKP
      have HTX : ∀ X, Below w.heap.size w X → TZ X ∧ DB X := fun X h => ⟨HT.out.below h, HD.out.below h⟩
      have HTXH := Lib.hid HTX
      clear HKP HTX
      have K0 : Hid (Below w.heap.size w wr ∧ wr.heap[w.heap.size]? = some (.cells #[.int .u64 (sw (fromK p k) 0 : Nat), .int .u64 (sw (fromK p k) 1 : Nat), .int .u64 (sw (fromK p k) 2 : Nat), .int .u64 (sw (fromK p k) 3 : Nat)] 36 (0, 0)) ∧ wr.ownsRow w.heap.size 9 1 (.slice a0 dn.length cap0) dn.length (dn.map strV)) := Lib.hid ⟨HI.out.bel, HI.out.blk, HI.out.own⟩
      go_wp2_with fail
      refine (HL1 _ (HTXH.out _ K0.out.1).1).out.mono ?_
      rintro e' w1 ⟨rfl, hb1⟩
      have K1 := Lib.hid (HKPH.out _ _ K0.out.1 K0.out.2.1 K0.out.2.2 hb1)
      clear c0 c1 c2 c3 hbz hb1
      obtain ⟨⟨c0, c1, c2, c3⟩, _, hbz⟩ := cells4 K1.out.2.1
      go_wp2_with fail
      refine (HNT _).out.mono ?_
      rintro e' w2 ⟨rfl, hb2⟩
      have K2 := Lib.hid (HKPH.out _ _ K1.out.1 K1.out.2.1 K1.out.2.2 hb2)
      clear c0 c1 c2 c3 hbz hb2
      obtain ⟨⟨c0, c1, c2, c3⟩, _, hbz⟩ := cells4 K2.out.2.1
      go_wp2_with fail
      refine (HB1 _).out.mono ?_
      rintro e' w3 ⟨rfl, hb3⟩
      have K3 := Lib.hid (HKPH.out _ _ K2.out.1 K2.out.2.1 K2.out.2.2 hb3)
      clear c0 c1 c2 c3 hbz hb3
      obtain ⟨⟨c0, c1, c2, c3⟩, _, hbz⟩ := cells4 K3.out.2.1
      go_wp2_with fail
      refine (HW1 _).out.mono ?_
      rintro e' w4 ⟨rfl, hb4⟩
      have K4 := Lib.hid (HKPH.out _ _ K3.out.1 K3.out.2.1 K3.out.2.2 hb4)
      clear c0 c1 c2 c3 hbz hb4
      obtain ⟨⟨c0, c1, c2, c3⟩, _, hbz⟩ := cells4 K4.out.2.1
      go_wp2_with fail
      refine (HL2 _ (HTXH.out _ K4.out.1).1).out.mono ?_
      rintro e' w5 ⟨rfl, hb5⟩
      have K5 := Lib.hid (HKPH.out _ _ K4.out.1 K4.out.2.1 K4.out.2.2 hb5)
      clear c0 c1 c2 c3 hbz hb5
      obtain ⟨⟨c0, c1, c2, c3⟩, _, hbz⟩ := cells4 K5.out.2.1
      go_wp2_with fail
      refine (HX1 _ (HTXH.out _ K5.out.1).2).out.mono ?_
      rintro e' w6 ⟨rfl, hb6⟩
      have K6 := Lib.hid (HKPH.out _ _ K5.out.1 K5.out.2.1 K5.out.2.2 hb6)
      clear c0 c1 c2 c3 hbz hb6
      obtain ⟨⟨c0, c1, c2, c3⟩, _, hbz⟩ := cells4 K6.out.2.1
      by_cases hr : lo + 1 < e
      · have hrI : (lo : Int) + 1 < (e : Int) := by omega
        go_wp2_with fail
        refine (HX2 _ (HTXH.out _ K6.out.1).2).out.mono ?_
        rintro e' w7 ⟨rfl, hb7⟩
        have K7 := Lib.hid (HKPH.out _ _ K6.out.1 K6.out.2.1 K6.out.2.2 hb7)
        clear c0 c1 c2 c3 hbz hb7
        obtain ⟨⟨c0, c1, c2, c3⟩, _, hbz⟩ := cells4 K7.out.2.1
        go_wp2_with (at_builtin; refine wpList_append_own _ rfl _ _ 83 rfl w.heap.size 9 i1 (.string ⟨#[]⟩) 1 16 Tryz.underlying83 ki kz0 kz1 kz2 rfl (by decide) _ _ _ rfl (K7.out.2.2.alloc _) ⟨w7.heap.size, 0, none⟩ 1 1 [.string (s1 ++ (⟨#[45]⟩ ++ s2))] rfl rfl ?c1 ?c2 ?c3 ?c4 ?c5 ?_)
        case c1 =>
          intro j u hj
          match j, hj with
          | 0, hj => simp at hj; subst hj; simp [Addr.add]
        case c2 => intro u hu; simp at hu; subst hu; rfl
        case c3 => unfold maxLen; omega
        case c4 => omega
        case c5 => have := K7.out.1.size; simp; omega
        intro v' wa hown' hgr _
        have HON : Hid (wa.ownsRow w.heap.size 9 1 v' (dn ++ [runT lo e]).length ((dn ++ [runT lo e]).map strV)) := Lib.hid (by rw [List.length_append, List.map_append]; rw [(HR2 hr).out] at hown'; exact hown')
        have HBA : Hid (Below w.heap.size w wa) := Lib.hid ((K7.out.1.alloc K7.out.1.size _).grown hgr (by have := K7.out.1.size; simp; omega) (fun k hk => (K7.out.2.2.lt k hk).1))
        have HBK : Hid (wa.heap[w.heap.size]? = some (.cells #[.int .u64 (sw (fromK p k) 0 : Nat), .int .u64 (sw (fromK p k) 1 : Nat), .int .u64 (sw (fromK p k) 2 : Nat), .int .u64 (sw (fromK p k) 3 : Nat)] 36 (0, 0))) := Lib.hid (blk_grown (blk_alloc K7.out.2.1 _) hgr (own_neK K7.out.2.2 K7.out.2.1 (by decide)))
        obtain ⟨a9, cap9, hv9⟩ := own_shapeT HON.out
        clear hown' hgr c0 c1 c2 c3 hbz
        subst hv9
        go_wp2_with fail
        refine Reg.wp_region_sto (fun L u X => TxS w p k e (dn ++ [runT lo e]) (.slice a9 (dn ++ [runT lo e]).length cap9) (L 4) X) (fun j => ([some (.agg #[.int .u64 (sw (fromK p k) 0 : Nat), .int .u64 (sw (fromK p k) 1 : Nat), .int .u64 (sw (fromK p k) 2 : Nat), .int .u64 (sw (fromK p k) 3 : Nat)]), some (.int .i64 (e : Nat)), some (.agg #[.int .u64 (sw (ltP e) 0 : Nat), .int .u64 (sw (ltP e) 1 : Nat), .int .u64 (sw (ltP e) 2 : Nat), .int .u64 (sw (ltP e) 3 : Nat)]), some (.agg #[.int .u64 (sw (fromK p e) 0 : Nat), .int .u64 (sw (fromK p e) 1 : Nat), .int .u64 (sw (fromK p e) 2 : Nat), .int .u64 (sw (fromK p e) 3 : Nat)]), none] : List (Option Value)).getD j none) (by kernel_rfl) (by kernel_rfl) (by kernel_rfl) (by kernel_rfl) ?rs0 ?rsE ?rsZ
        case rs0 => exact ⟨HBA.out.drew, fun _ => HBK.out, fun h => (by cases h), HON.out⟩
        case rsE =>
          refine Reg.EachG.plain rfl (fun L u T X hL hz hS hk K hK => ?_) ?_
          · skip
            have g1 : T[1]? = some (.pointer (some ⟨w.heap.size, 0, none⟩)) := hk.old 1 (by kernel_rfl) rfl
            obtain ⟨⟨z0, z1, z2, z3⟩, _, _⟩ := cells4 (hS.old (hz 4 (by kernel_rfl)))
            have hK := hK _ X hS (fun _ hx => Option.some.inj hx)
            clear hk hz hL
            go_simp
            exact hK
          refine Reg.EachG.plain rfl (fun L u T X hL hz hS hk K hK => ?_) ?_
          · skip
            have g5 : T[5]? = some (.int .i64 (e : Nat)) := hk.old 5 (by kernel_rfl) rfl
            have hK := hK _ X hS (fun _ hx => Option.some.inj hx)
            clear hk hz hL
            go_simp
            exact hK
          refine Reg.EachG.plain rfl (fun L u T X hL hz hS hk K hK => ?_) ?_
          · skip
            have g35 : T[35]? = some (.int .i64 (e : Nat)) := hk.val 1 35 (by kernel_rfl) (by kernel_rfl) rfl
            clear hk hz
            go_simp
            refine (HB2 _).out.mono ?_
            rintro e' w' ⟨rfl, hb⟩
            exact hK _ _ ⟨below_thn hS.bel (Nat.le_refl _) hb, fun h => blk_below (hS.old h) hb, fun h => blk_below (hS.new h) hb, own_drop hS.own hb⟩ (fun _ hx => Option.some.inj hx)
          refine Reg.EachG.plain rfl (fun L u T X hL hz hS hk K hK => ?_) ?_
          · skip
            have g34 : T[34]? = some (.agg #[.int .u64 (sw (fromK p k) 0 : Nat), .int .u64 (sw (fromK p k) 1 : Nat), .int .u64 (sw (fromK p k) 2 : Nat), .int .u64 (sw (fromK p k) 3 : Nat)]) := hk.val 0 34 (by kernel_rfl) (by kernel_rfl) rfl
            have g36 : T[36]? = some (.agg #[.int .u64 (sw (ltP e) 0 : Nat), .int .u64 (sw (ltP e) 1 : Nat), .int .u64 (sw (ltP e) 2 : Nat), .int .u64 (sw (ltP e) 3 : Nat)]) := hk.val 2 36 (by kernel_rfl) (by kernel_rfl) rfl
            clear hk hz
            go_simp
            refine (HW2 _).out.mono ?_
            rintro e' w' ⟨rfl, hb⟩
            exact hK _ _ ⟨below_thn hS.bel (Nat.le_refl _) hb, fun h => blk_below (hS.old h) hb, fun h => blk_below (hS.new h) hb, own_drop hS.own hb⟩ (fun _ hx => Option.some.inj hx)
          refine Reg.EachG.plain rfl (fun L u T X hL hz hS hk K hK => ?_) ?_
          · skip
            have g1 : T[1]? = some (.pointer (some ⟨w.heap.size, 0, none⟩)) := hk.old 1 (by kernel_rfl) rfl
            have g37 : T[37]? = some (.agg #[.int .u64 (sw (fromK p e) 0 : Nat), .int .u64 (sw (fromK p e) 1 : Nat), .int .u64 (sw (fromK p e) 2 : Nat), .int .u64 (sw (fromK p e) 3 : Nat)]) := hk.val 3 37 (by kernel_rfl) (by kernel_rfl) rfl
            have hold := hS.old hL
            obtain ⟨⟨z0, z1, z2, z3⟩, ⟨f0, f1, f2, f3⟩, hgz⟩ := cells4 hold
            have hK := hK undef ((((X.setCell ⟨w.heap.size, 0, none⟩ (.int .u64 (sw (fromK p e) 0 : Nat))).setCell ⟨w.heap.size, 1, none⟩ (.int .u64 (sw (fromK p e) 1 : Nat))).setCell ⟨w.heap.size, 2, none⟩ (.int .u64 (sw (fromK p e) 2 : Nat))).setCell ⟨w.heap.size, 3, none⟩ (.int .u64 (sw (fromK p e) 3 : Nat))) ⟨(((hS.bel.setCell (Nat.le_refl _) _).setCell (Nat.le_refl _) _).setCell (Nat.le_refl _) _).setCell (Nat.le_refl _) _, fun h => (by rw [Reg.upd_same] at h; cases h), fun _ => blk_putB (fromK p e) hold, own_set4 hS.own hold (by decide) _ _ _ _⟩ (fun _ hx => by cases hx)
            clear hk hz hL hS hold
            go_simp
            exact hK
          exact Reg.EachG.nil
        case rsZ =>
          intro L u w1z hL hS hI
          have e0 : u 0 = .agg #[.int .u64 (sw (fromK p k) 0 : Nat), .int .u64 (sw (fromK p k) 1 : Nat), .int .u64 (sw (fromK p k) 2 : Nat), .int .u64 (sw (fromK p k) 3 : Nat)] := hI 0 (by decide) _ rfl
          have e1 : u 1 = .int .i64 (e : Nat) := hI 1 (by decide) _ rfl
          have e2 : u 2 = .agg #[.int .u64 (sw (ltP e) 0 : Nat), .int .u64 (sw (ltP e) 1 : Nat), .int .u64 (sw (ltP e) 2 : Nat), .int .u64 (sw (ltP e) 3 : Nat)] := hI 2 (by decide) _ rfl
          have e3 : u 3 = .agg #[.int .u64 (sw (fromK p e) 0 : Nat), .int .u64 (sw (fromK p e) 1 : Nat), .int .u64 (sw (fromK p e) 2 : Nat), .int .u64 (sw (fromK p e) 3 : Nat)] := hI 3 (by decide) _ rfl
          clear hI
          simp only [Reg.putAll, Act.put, List.setIfInBounds_toArray, List.set_cons_succ, List.set_cons_zero, Nat.zero_add, Nat.reduceAdd, e0, e1, e2, e3]
          clear e0 e1 e2 e3
          have hn := hS.new (hL 4 (by decide))
          have HE : Hid (TxI w p e (dn ++ [runT lo e]) (.slice a9 (dn ++ [runT lo e]).length cap9) w1z) := Lib.hid ⟨hle, by rw [List.append_assoc, List.singleton_append, ← HST.out]; exact HI.out.spl, hS.bel, hn, hS.own⟩
          clear hS hn hL
          go_wp2
          exact ⟨⟨e, _, HE.out⟩, by simp; omega⟩
      · have hrI : ¬ (lo : Int) + 1 < (e : Int) := by omega
        go_wp2_with (at_builtin; refine wpList_append_own _ rfl _ _ 83 rfl w.heap.size 9 i1 (.string ⟨#[]⟩) 1 16 Tryz.underlying83 ki kz0 kz1 kz2 rfl (by decide) _ _ _ rfl (K6.out.2.2.alloc _) ⟨w6.heap.size, 0, none⟩ 1 1 [.string (s1)] rfl rfl ?c1 ?c2 ?c3 ?c4 ?c5 ?_)
        case c1 =>
          intro j u hj
          match j, hj with
          | 0, hj => simp at hj; subst hj; simp [Addr.add]
        case c2 => intro u hu; simp at hu; subst hu; rfl
        case c3 => unfold maxLen; omega
        case c4 => omega
        case c5 => have := K6.out.1.size; simp; omega
        intro v' wa hown' hgr _
        have HON : Hid (wa.ownsRow w.heap.size 9 1 v' (dn ++ [runT lo e]).length ((dn ++ [runT lo e]).map strV)) := Lib.hid (by rw [List.length_append, List.map_append]; rw [(HR1 hr).out] at hown'; exact hown')
        have HBA : Hid (Below w.heap.size w wa) := Lib.hid ((K6.out.1.alloc K6.out.1.size _).grown hgr (by have := K6.out.1.size; simp; omega) (fun k hk => (K6.out.2.2.lt k hk).1))
        have HBK : Hid (wa.heap[w.heap.size]? = some (.cells #[.int .u64 (sw (fromK p k) 0 : Nat), .int .u64 (sw (fromK p k) 1 : Nat), .int .u64 (sw (fromK p k) 2 : Nat), .int .u64 (sw (fromK p k) 3 : Nat)] 36 (0, 0))) := Lib.hid (blk_grown (blk_alloc K6.out.2.1 _) hgr (own_neK K6.out.2.2 K6.out.2.1 (by decide)))
        obtain ⟨a9, cap9, hv9⟩ := own_shapeT HON.out
        clear hown' hgr c0 c1 c2 c3 hbz
        subst hv9
        go_wp2_with fail
        refine Reg.wp_region_sto (fun L u X => TxS w p k e (dn ++ [runT lo e]) (.slice a9 (dn ++ [runT lo e]).length cap9) (L 4) X) (fun j => ([some (.agg #[.int .u64 (sw (fromK p k) 0 : Nat), .int .u64 (sw (fromK p k) 1 : Nat), .int .u64 (sw (fromK p k) 2 : Nat), .int .u64 (sw (fromK p k) 3 : Nat)]), some (.int .i64 (e : Nat)), some (.agg #[.int .u64 (sw (ltP e) 0 : Nat), .int .u64 (sw (ltP e) 1 : Nat), .int .u64 (sw (ltP e) 2 : Nat), .int .u64 (sw (ltP e) 3 : Nat)]), some (.agg #[.int .u64 (sw (fromK p e) 0 : Nat), .int .u64 (sw (fromK p e) 1 : Nat), .int .u64 (sw (fromK p e) 2 : Nat), .int .u64 (sw (fromK p e) 3 : Nat)]), none] : List (Option Value)).getD j none) (by kernel_rfl) (by kernel_rfl) (by kernel_rfl) (by kernel_rfl) ?rs0 ?rsE ?rsZ
        case rs0 => exact ⟨HBA.out.drew, fun _ => HBK.out, fun h => (by cases h), HON.out⟩
        case rsE =>
          refine Reg.EachG.plain rfl (fun L u T X hL hz hS hk K hK => ?_) ?_
          · skip
            have g1 : T[1]? = some (.pointer (some ⟨w.heap.size, 0, none⟩)) := hk.old 1 (by kernel_rfl) rfl
            obtain ⟨⟨z0, z1, z2, z3⟩, _, _⟩ := cells4 (hS.old (hz 4 (by kernel_rfl)))
            have hK := hK _ X hS (fun _ hx => Option.some.inj hx)
            clear hk hz hL
            go_simp
            exact hK
          refine Reg.EachG.plain rfl (fun L u T X hL hz hS hk K hK => ?_) ?_
          · skip
            have g5 : T[5]? = some (.int .i64 (e : Nat)) := hk.old 5 (by kernel_rfl) rfl
            have hK := hK _ X hS (fun _ hx => Option.some.inj hx)
            clear hk hz hL
            go_simp
            exact hK
          refine Reg.EachG.plain rfl (fun L u T X hL hz hS hk K hK => ?_) ?_
          · skip
            have g35 : T[35]? = some (.int .i64 (e : Nat)) := hk.val 1 35 (by kernel_rfl) (by kernel_rfl) rfl
            clear hk hz
            go_simp
            refine (HB2 _).out.mono ?_
            rintro e' w' ⟨rfl, hb⟩
            exact hK _ _ ⟨below_thn hS.bel (Nat.le_refl _) hb, fun h => blk_below (hS.old h) hb, fun h => blk_below (hS.new h) hb, own_drop hS.own hb⟩ (fun _ hx => Option.some.inj hx)
          refine Reg.EachG.plain rfl (fun L u T X hL hz hS hk K hK => ?_) ?_
          · skip
            have g34 : T[34]? = some (.agg #[.int .u64 (sw (fromK p k) 0 : Nat), .int .u64 (sw (fromK p k) 1 : Nat), .int .u64 (sw (fromK p k) 2 : Nat), .int .u64 (sw (fromK p k) 3 : Nat)]) := hk.val 0 34 (by kernel_rfl) (by kernel_rfl) rfl
            have g36 : T[36]? = some (.agg #[.int .u64 (sw (ltP e) 0 : Nat), .int .u64 (sw (ltP e) 1 : Nat), .int .u64 (sw (ltP e) 2 : Nat), .int .u64 (sw (ltP e) 3 : Nat)]) := hk.val 2 36 (by kernel_rfl) (by kernel_rfl) rfl
            clear hk hz
            go_simp
            refine (HW2 _).out.mono ?_
            rintro e' w' ⟨rfl, hb⟩
            exact hK _ _ ⟨below_thn hS.bel (Nat.le_refl _) hb, fun h => blk_below (hS.old h) hb, fun h => blk_below (hS.new h) hb, own_drop hS.own hb⟩ (fun _ hx => Option.some.inj hx)
          refine Reg.EachG.plain rfl (fun L u T X hL hz hS hk K hK => ?_) ?_
          · skip
            have g1 : T[1]? = some (.pointer (some ⟨w.heap.size, 0, none⟩)) := hk.old 1 (by kernel_rfl) rfl
            have g37 : T[37]? = some (.agg #[.int .u64 (sw (fromK p e) 0 : Nat), .int .u64 (sw (fromK p e) 1 : Nat), .int .u64 (sw (fromK p e) 2 : Nat), .int .u64 (sw (fromK p e) 3 : Nat)]) := hk.val 3 37 (by kernel_rfl) (by kernel_rfl) rfl
            have hold := hS.old hL
            obtain ⟨⟨z0, z1, z2, z3⟩, ⟨f0, f1, f2, f3⟩, hgz⟩ := cells4 hold
            have hK := hK undef ((((X.setCell ⟨w.heap.size, 0, none⟩ (.int .u64 (sw (fromK p e) 0 : Nat))).setCell ⟨w.heap.size, 1, none⟩ (.int .u64 (sw (fromK p e) 1 : Nat))).setCell ⟨w.heap.size, 2, none⟩ (.int .u64 (sw (fromK p e) 2 : Nat))).setCell ⟨w.heap.size, 3, none⟩ (.int .u64 (sw (fromK p e) 3 : Nat))) ⟨(((hS.bel.setCell (Nat.le_refl _) _).setCell (Nat.le_refl _) _).setCell (Nat.le_refl _) _).setCell (Nat.le_refl _) _, fun h => (by rw [Reg.upd_same] at h; cases h), fun _ => blk_putB (fromK p e) hold, own_set4 hS.own hold (by decide) _ _ _ _⟩ (fun _ hx => by cases hx)
            clear hk hz hL hS hold
            go_simp
            exact hK
          exact Reg.EachG.nil
        case rsZ =>
          intro L u w1z hL hS hI
          have e0 : u 0 = .agg #[.int .u64 (sw (fromK p k) 0 : Nat), .int .u64 (sw (fromK p k) 1 : Nat), .int .u64 (sw (fromK p k) 2 : Nat), .int .u64 (sw (fromK p k) 3 : Nat)] := hI 0 (by decide) _ rfl
          have e1 : u 1 = .int .i64 (e : Nat) := hI 1 (by decide) _ rfl
          have e2 : u 2 = .agg #[.int .u64 (sw (ltP e) 0 : Nat), .int .u64 (sw (ltP e) 1 : Nat), .int .u64 (sw (ltP e) 2 : Nat), .int .u64 (sw (ltP e) 3 : Nat)] := hI 2 (by decide) _ rfl
          have e3 : u 3 = .agg #[.int .u64 (sw (fromK p e) 0 : Nat), .int .u64 (sw (fromK p e) 1 : Nat), .int .u64 (sw (fromK p e) 2 : Nat), .int .u64 (sw (fromK p e) 3 : Nat)] := hI 3 (by decide) _ rfl
          clear hI
          simp only [Reg.putAll, Act.put, List.setIfInBounds_toArray, List.set_cons_succ, List.set_cons_zero, Nat.zero_add, Nat.reduceAdd, e0, e1, e2, e3]
          clear e0 e1 e2 e3
          have hn := hS.new (hL 4 (by decide))
          have HE : Hid (TxI w p e (dn ++ [runT lo e]) (.slice a9 (dn ++ [runT lo e]).length cap9) w1z) := Lib.hid ⟨hle, by rw [List.append_assoc, List.singleton_append, ← HST.out]; exact HI.out.spl, hS.bel, hn, hS.own⟩
          clear hS hn hL
          go_wp2
          exact ⟨⟨e, _, HE.out⟩, by simp; omega⟩
    · have hno := (fst_none p k HI.out.hk).1 hl
      have E := eq_yesM (fromK p k) noP hno
      have z : ∀ i, ((sw noP i : Nat) : Int) = 0 := sw_zero
      simp only [z] at E
      have HEN : Hid (dn = runs p) := Lib.hid (by have := HI.out.spl; rw [runsN_end p k hl, List.append_nil] at this; exact this)
      have HJ : Hid (Calls Tryz.prog 35 #[.slice a0 dn.length cap0, .string ⟨#[44]⟩] wr fun e w' => e = .returned (.string ⟨(Lib.join (runs p) [44]).toArray⟩) ∧ Below wr.heap.size wr w') := Lib.hid (by have := join_own ⟨#[44]⟩ wr HI.out.own (by omega) (by rw [HEN.out]; have := HRL.out.2; simp; omega); rw [HEN.out] at this; rw [HEN.out]; exact this)
      have hjs : (⟨(Lib.join (runs p) [44]).toArray⟩ : ByteArray).size ≤ 1536 := by have := HRL.out.2; simpa [ByteArray.size] using this
      have HTS : Hid ((⟨#[91]⟩ : ByteArray) ++ ⟨(Lib.join (runs p) [44]).toArray⟩ ++ ⟨#[93]⟩ = textS p) := Lib.hid (by apply ByteArray.ext; simp [textS, textL])
      generalize (⟨(Lib.join (runs p) [44]).toArray⟩ : ByteArray) = J at *
      clear hno z
      go_wp2_with fail
      refine HJ.out.mono ?_
      rintro e' w1 ⟨rfl, hb1⟩
      have HBE := Lib.hid (below_thn HI.out.bel (Nat.le_refl _) hb1)
      clear hb1
      go_wp2
      go_ret
      exact ⟨by rw [← HTS.out]; rfl, HBE.out⟩
end Go.Proofs.YthmgcebonplcgaaGreatDoor
