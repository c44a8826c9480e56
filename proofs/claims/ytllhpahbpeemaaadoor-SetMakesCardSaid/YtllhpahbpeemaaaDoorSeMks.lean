/- The walk of SetMakes (gen_makes.py). -/
import Derived.Test.YtllhpahbpeemaaaDoorSeMk
import Derived.Test.YtllhpahbpeemaaaDoorSeAwk
import Derived.Test.YtllhpahbpeemaaaDoorLiReg
namespace Go.Proofs.YtllhpahbpeemaaaDoor
open Go.RowKit

theorem frzB {w : World} {g : Nat} {cs : Array Value} {t : TypeId} (h : w.heap[g]? = some (.cells cs t)) (j : Nat) : w.frozen? ⟨g, j, none⟩ = false := by simp [World.frozen?, h]
theorem bytesSame_any {v v' : Value} {l : List Int} {w : World} (h : Sl w v l) (h' : Sl w v' l) :
    Calls Tryd.prog 24 #[v, v'] w fun e w' => e = .returned (.bool true) ∧ w' = w := by
  have := bytesEq_any v v' l l w h h'
  simpa using this

/-- The law's three boxes: two sets, and the one that grows. -/
def MK (w : World) (p q r : Nat → Bool) (X : World) : Prop :=
  Below (w.heap.size + 2) ((w.alloc (.cells #[.int .u64 (sw p 0 : Nat), .int .u64 (sw p 1 : Nat), .int .u64 (sw p 2 : Nat), .int .u64 (sw p 3 : Nat)] 24)).alloc (.cells #[.int .u64 (sw q 0 : Nat), .int .u64 (sw q 1 : Nat), .int .u64 (sw q 2 : Nat), .int .u64 (sw q 3 : Nat)] 24)) X ∧ Row4 X (w.heap.size + 2) 0 r ∧ (∀ j, X.frozen? ⟨w.heap.size + 2, j, none⟩ = false) ∧ w.heap.size + 2 < X.heap.size
theorem MK.start (w : World) (p q : Nat → Bool) : MK w p q noP (((w.alloc (.cells #[.int .u64 (sw p 0 : Nat), .int .u64 (sw p 1 : Nat), .int .u64 (sw p 2 : Nat), .int .u64 (sw p 3 : Nat)] 24)).alloc (.cells #[.int .u64 (sw q 0 : Nat), .int .u64 (sw q 1 : Nat), .int .u64 (sw q 2 : Nat), .int .u64 (sw q 3 : Nat)] 24)).alloc (.cells #[.int .u64 0, .int .u64 0, .int .u64 0, .int .u64 0] 24)) := by
  have hz : ((w.alloc (.cells #[.int .u64 (sw p 0 : Nat), .int .u64 (sw p 1 : Nat), .int .u64 (sw p 2 : Nat), .int .u64 (sw p 3 : Nat)] 24)).alloc (.cells #[.int .u64 (sw q 0 : Nat), .int .u64 (sw q 1 : Nat), .int .u64 (sw q 2 : Nat), .int .u64 (sw q 3 : Nat)] 24)).heap.size = w.heap.size + 2 := by simp
  have e := alloc_last ((w.alloc (.cells #[.int .u64 (sw p 0 : Nat), .int .u64 (sw p 1 : Nat), .int .u64 (sw p 2 : Nat), .int .u64 (sw p 3 : Nat)] 24)).alloc (.cells #[.int .u64 (sw q 0 : Nat), .int .u64 (sw q 1 : Nat), .int .u64 (sw q 2 : Nat), .int .u64 (sw q 3 : Nat)] 24)) (.cells #[.int .u64 0, .int .u64 0, .int .u64 0, .int .u64 0] 24)
  rw [hz] at e
  obtain ⟨⟨c0, c1, c2, c3⟩, _, _⟩ := cells4 e
  refine ⟨(Below.refl _ _).alloc (by simp) _, ⟨?_, ?_, ?_, ?_⟩, fun j => frzB e j, by simp⟩
  · rw [show noP = fun _ => false from rfl, sw_zero]; exact c0
  · rw [show noP = fun _ => false from rfl, sw_zero]; exact c1
  · rw [show noP = fun _ => false from rfl, sw_zero]; exact c2
  · rw [show noP = fun _ => false from rfl, sw_zero]; exact c3
theorem MK.next {w V V' : World} {p q r : Nat → Bool} (h : MK w p q r V) (hb : Below V.heap.size V V') : MK w p q r V' := by
  obtain ⟨h0, ⟨r0, r1, r2, r3⟩, hf, hz⟩ := h
  have k : ∀ o, V'.cell? ⟨w.heap.size + 2, o, none⟩ = V.cell? ⟨w.heap.size + 2, o, none⟩ := fun o => hb.cell (p := ⟨_, o, none⟩) hz
  have g : ∀ o, V'.frozen? ⟨w.heap.size + 2, o, none⟩ = V.frozen? ⟨w.heap.size + 2, o, none⟩ := fun o => hb.frozen (p := ⟨_, o, none⟩) hz
  exact ⟨h0.trans (hb.mono (Nat.le_of_lt hz)), ⟨(k _).trans r0, (k _).trans r1, (k _).trans r2, (k _).trans r3⟩, fun j => (g j).trans (hf j), Nat.lt_of_lt_of_le hz hb.size⟩
theorem MK.put {w V : World} {p q r : Nat → Bool} (t : Nat → Bool) (h : MK w p q r V) :
    MK w p q t ((((V.setCell ⟨w.heap.size + 2, 0, none⟩ (.int .u64 (sw t 0 : Nat))).setCell ⟨w.heap.size + 2, 1, none⟩ (.int .u64 (sw t 1 : Nat))).setCell ⟨w.heap.size + 2, 2, none⟩ (.int .u64 (sw t 2 : Nat))).setCell ⟨w.heap.size + 2, 3, none⟩ (.int .u64 (sw t 3 : Nat))) :=
  ⟨(((h.1.setCell (Nat.le_refl _) _).setCell (Nat.le_refl _) _).setCell (Nat.le_refl _) _).setCell (Nat.le_refl _) _, row4_put t h.2.1, fun j => by simpa using h.2.2.1 j, by simpa using h.2.2.2⟩
theorem MK.facts {w V : World} {p q r : Nat → Bool} (h : MK w p q r V) :
    (V.cell? ⟨w.heap.size + 2, 0, none⟩ = some (.int .u64 (sw r 0 : Nat)) ∧ V.cell? ⟨w.heap.size + 2, 1, none⟩ = some (.int .u64 (sw r 1 : Nat)) ∧ V.cell? ⟨w.heap.size + 2, 2, none⟩ = some (.int .u64 (sw r 2 : Nat)) ∧ V.cell? ⟨w.heap.size + 2, 3, none⟩ = some (.int .u64 (sw r 3 : Nat))) ∧
    (V.frozen? ⟨w.heap.size + 2, 0, none⟩ = false ∧ V.frozen? ⟨w.heap.size + 2, 1, none⟩ = false ∧ V.frozen? ⟨w.heap.size + 2, 2, none⟩ = false ∧ V.frozen? ⟨w.heap.size + 2, 3, none⟩ = false) ∧ w.heap.size + 2 < V.heap.size :=
  ⟨⟨h.2.1.1, h.2.1.2.1, h.2.1.2.2.1, h.2.1.2.2.2⟩, ⟨h.2.2.1 0, h.2.2.1 1, h.2.2.1 2, h.2.2.1 3⟩, h.2.2.2⟩
theorem MK.below {w V : World} {p q r : Nat → Bool} (h : MK w p q r V) : Below w.heap.size w V :=
  (((Below.refl _ _).alloc (Nat.le_refl _) _).alloc (by simp) _).trans (h.1.mono (by omega))
theorem MK.k3 {w V : World} {p q r : Nat → Bool} (h : MK w p q r V) : K3 w w.heap.size (w.heap.size + 1) (w.heap.size + 2) p q r V := by
  have hb := h.below
  obtain ⟨h0, ⟨r0, r1, r2, r3⟩, hf, hz⟩ := h
  have e0 : V.heap[w.heap.size]? = some (.cells #[.int .u64 (sw p 0 : Nat), .int .u64 (sw p 1 : Nat), .int .u64 (sw p 2 : Nat), .int .u64 (sw p 3 : Nat)] 24) := (h0.block w.heap.size (by omega)).trans ((Below.heap_alloc _ _ _ (by simp)).trans (alloc_last w _))
  have e1 : V.heap[w.heap.size + 1]? = some (.cells #[.int .u64 (sw q 0 : Nat), .int .u64 (sw q 1 : Nat), .int .u64 (sw q 2 : Nat), .int .u64 (sw q 3 : Nat)] 24) := (h0.block (w.heap.size + 1) (by omega)).trans (by have := alloc_last (w.alloc (.cells #[.int .u64 (sw p 0 : Nat), .int .u64 (sw p 1 : Nat), .int .u64 (sw p 2 : Nat), .int .u64 (sw p 3 : Nat)] 24)) (.cells #[.int .u64 (sw q 0 : Nat), .int .u64 (sw q 1 : Nat), .int .u64 (sw q 2 : Nat), .int .u64 (sw q 3 : Nat)] 24); simpa using this)
  obtain ⟨⟨a0, a1, a2, a3⟩, _, za⟩ := cells4 e0
  obtain ⟨⟨b0, b1, b2, b3⟩, _, zb⟩ := cells4 e1
  exact ⟨hb, a0, a1, a2, a3, b0, b1, b2, b3, r0, r1, r2, r3, za, zb, hz⟩
theorem own_shapeK {w : World} {base : Nat} {e : TypeId} {v : Value} {n : Nat} {xs : List Value} (h : w.ownsRow base e 1 v n xs) : xs.length = n ∧ ∃ a0 cap, v = .slice a0 n cap := by
  obtain ⟨h1, ⟨rfl, rfl⟩ | ⟨g, cap, cur, rfl, _⟩⟩ := h
  · exact ⟨by simpa using h1, none, 0, rfl⟩
  · exact ⟨by simpa using h1, _, cap, rfl⟩
/-- A set up to a byte. -/
def upto (m : Nat → Bool) (k c : Nat) : Bool := decide (c < k) && m c
theorem upto_in {m : Nat → Bool} {k : Nat} (h : m k = true) : plus (upto m k) k = upto m (k + 1) := by
  funext c
  unfold plus upto
  by_cases h1 : c = k
  · subst h1; simp [h]
  · rw [show (c == k) = false by simpa using h1, show decide (c < k + 1) = decide (c < k) by rw [Bool.eq_iff_iff]; simp; omega]; simp
theorem upto_out {m : Nat → Bool} {k : Nat} (h : m k = false) : upto m (k + 1) = upto m k := by
  funext c
  unfold upto
  by_cases h1 : c = k
  · subst h1; simp [h]
  · rw [show decide (c < k + 1) = decide (c < k) by rw [Bool.eq_iff_iff]; simp; omega]

set_option maxRecDepth 100000 in
set_option maxHeartbeats 16000000 in
theorem makes_any (s : ByteArray) (low high : Nat) (p q : Nat → Bool) (hs : s.size ≤ 9223372036854775807) (hl : low < 256) (hh : high < 256) (w : World) (hT : TZ w) :
    Calls Tryd.prog 3 #[.string s, .int .u8 low, .int .u8 high, SV p, SV q] w fun e w' => e = .returned (.bool true) ∧ Below w.heap.size w w' := by
  have HT := Lib.hid hT
  clear hT
  have HIN : ∀ (c : Nat) (w : World), Hid (Calls Tryd.prog 11 #[.int .u8 c, .string s] w fun e w' => e = .returned (.bool (mem (bys s) c)) ∧ w' = w) := fun c w => Lib.hid (in_any c s hs w)
  have COf : ∀ w, Hid (Calls Tryd.prog 13 #[.string s] w fun e w' => e = .returned (SV (mem (bys s))) ∧ Below w.heap.size w w') := fun w => Lib.hid (of_any s w hs)
  have CRa : ∀ w, Hid (Calls Tryd.prog 14 #[.int .u8 low, .int .u8 high] w fun e w' => e = .returned (SV (rng low high)) ∧ Below w.heap.size w w') := fun w => Lib.hid (range_any low high hl hh w)
  have CRr : ∀ w, Hid (Calls Tryd.prog 15 #[.int .u8 low, .int .u8 high] w fun e w' => e = .returned (SV (rng low high)) ∧ Below w.heap.size w w') := fun w => Lib.hid (rrange_any low high hl hh w)
  have CNo : ∀ w, Hid (Calls Tryd.prog 16 #[.agg #[.int .u64 (sw p 0 : Nat), .int .u64 (sw p 1 : Nat), .int .u64 (sw p 2 : Nat), .int .u64 (sw p 3 : Nat)]] w fun e w' => e = .returned (SV (notP p)) ∧ Below w.heap.size w w') := fun w => Lib.hid (not_any p w)
  have CNr : ∀ w, Hid (Calls Tryd.prog 17 #[.agg #[.int .u64 (sw p 0 : Nat), .int .u64 (sw p 1 : Nat), .int .u64 (sw p 2 : Nat), .int .u64 (sw p 3 : Nat)]] w fun e w' => e = .returned (SV (notP p)) ∧ Below w.heap.size w w') := fun w => Lib.hid (rnot_any p w)
  have CUn : Hid (∀ (w : World) (b : Nat), Row4 w b 0 p → Row4 w b 4 q → b < w.heap.size → Calls Tryd.prog 18 #[.slice (some ⟨b, 0, none⟩) 2 2] w fun e w' => e = .returned (SV (orP p q)) ∧ Below w.heap.size w w') := Lib.hid fun w b h1 h2 h3 => union2_any _ _ b 2 w h1 h2 h3
  have COr : ∀ w, Hid (Calls Tryd.prog 19 #[.agg #[.int .u64 (sw p 0 : Nat), .int .u64 (sw p 1 : Nat), .int .u64 (sw p 2 : Nat), .int .u64 (sw p 3 : Nat)], .agg #[.int .u64 (sw q 0 : Nat), .int .u64 (sw q 1 : Nat), .int .u64 (sw q 2 : Nat), .int .u64 (sw q 3 : Nat)]] w fun e w' => e = .returned (SV (orP p q)) ∧ Below w.heap.size w w') := fun w => Lib.hid (ror_any p q w)
  have CUz : ∀ w, Hid (Calls Tryd.prog 18 #[.slice none 0 0] w fun e w' => e = .returned (SV noP) ∧ Below w.heap.size w w') := fun w => Lib.hid (union_nil w)
  have CHa : ∀ w, Hid (Calls Tryd.prog 21 #[.agg #[.int .u64 (sw p 0 : Nat), .int .u64 (sw p 1 : Nat), .int .u64 (sw p 2 : Nat), .int .u64 (sw p 3 : Nat)], .int .u8 low] w fun e w' => e = .returned (.bool (p low)) ∧ Below w.heap.size w w') := fun w => Lib.hid (has_any p low hl w)
  have CHr : ∀ w, Hid (Calls Tryd.prog 22 #[.agg #[.int .u64 (sw p 0 : Nat), .int .u64 (sw p 1 : Nat), .int .u64 (sw p 2 : Nat), .int .u64 (sw p 3 : Nat)], .int .u8 low] w fun e w' => e = .returned (.bool (p low)) ∧ Below w.heap.size w w') := fun w => Lib.hid (rhas_any p low hl w)
  have CLe : ∀ w, Hid (Calls Tryd.prog 23 #[.agg #[.int .u64 (sw p 0 : Nat), .int .u64 (sw p 1 : Nat), .int .u64 (sw p 2 : Nat), .int .u64 (sw p 3 : Nat)]] w fun e w' => e = .returned (.int .i64 (cntS p : Nat)) ∧ Below w.heap.size w w') := fun w => Lib.hid (len_any p w)
  have CAw : ∀ w, Hid (Calls Tryd.prog 26 #[] w fun e w' => e = .returned (.bool true) ∧ Below w.heap.size w w') := fun w => Lib.hid (awake5_any w)
  have EOf := Lib.hid (eq_yesM (mem (bys s)) (upto (mem (bys s)) 256) (fun c hc => by simp [upto, hc]))
  have ERa := Lib.hid (eq_yesM (rng low high) (rng low high) (fun _ _ => rfl))
  have ENo := Lib.hid (eq_yesM (notP p) (notP p) (fun _ _ => rfl))
  have EUn := Lib.hid (eq_yesM (orP p q) (orP p q) (fun _ _ => rfl))
  have EZz := Lib.hid (eq_yesM noP noP (fun _ _ => rfl))
  have z : ∀ i, ((sw noP i : Nat) : Int) = 0 := sw_zero
  have HZ := Lib.hid z
  clear z
  unfold SV
  go_enter Tryd.func3, Tryd.ntmps3
  go_wp2_with fail
  have HM0 : Hid (MK w p q (upto (mem (bys s)) 0) (((w.alloc (.cells #[.int .u64 (sw p 0 : Nat), .int .u64 (sw p 1 : Nat), .int .u64 (sw p 2 : Nat), .int .u64 (sw p 3 : Nat)] 24)).alloc (.cells #[.int .u64 (sw q 0 : Nat), .int .u64 (sw q 1 : Nat), .int .u64 (sw q 2 : Nat), .int .u64 (sw q 3 : Nat)] 24)).alloc (.cells #[.int .u64 0, .int .u64 0, .int .u64 0, .int .u64 0] 24))) := Lib.hid (by rw [show upto (mem (bys s)) 0 = noP by funext c; simp [upto, noP]]; exact MK.start w p q)
  go_loopw [15] (fun x wr => ∃ k : Nat, k ≤ 256 ∧ x = .int .i64 k ∧ MK w p q (upto (mem (bys s)) k) wr) (fun x _ => 256 - (intOf x).toNat)
  case atStart => exact ⟨0, by omega, rfl, HM0.out⟩
  case round =>
    obtain ⟨k, hk, rfl, hmk⟩ := hrel
    have HM := Lib.hid hmk
    obtain ⟨⟨r0, r1, r2, r3⟩, ⟨f0, f1, f2, f3⟩, hz⟩ := hmk.facts
    clear hmk HM0
    by_cases hlt : k < 256
    · have hI : (k : Int) < 256 := by omega
      have hw2 : IntKind.i64.wrap ((k : Int) + 1) = (k : Int) + 1 := by rw [IntKind.wrap_i64]; omega
      have hw3 : IntKind.u8.wrap (k : Int) = (k : Int) := by rw [IntKind.wrap_u8]; omega
      have HI := HIN k
      cases hm : mem (bys s) k
      · have HE := Lib.hid (upto_out hm)
        simp only [hm] at HI
        clear hm
        go_wp2_with fail
        refine (HI _).out.mono ?_
        rintro e w1 ⟨rfl, rfl⟩
        go_wp2_with fail
        exact ⟨⟨k + 1, by omega, by simp, by rw [HE.out]; exact HM.out⟩, by simp [intOf]; omega⟩
      · have HE := Lib.hid (upto_in hm)
        simp only [hm] at HI
        clear hm
        have HA : ∀ w, Hid (Calls Tryd.prog 12 #[.agg #[.int .u64 (sw (upto (mem (bys s)) k) 0 : Nat), .int .u64 (sw (upto (mem (bys s)) k) 1 : Nat), .int .u64 (sw (upto (mem (bys s)) k) 2 : Nat), .int .u64 (sw (upto (mem (bys s)) k) 3 : Nat)], .int .u8 k] w fun e w' => e = .returned (SV (upto (mem (bys s)) (k + 1))) ∧ Below w.heap.size w w') := fun w => Lib.hid (by rw [← HE.out]; exact radd_any (upto (mem (bys s)) k) k hlt w)
        clear HE
        go_wp2_with fail
        refine (HI _).out.mono ?_
        rintro e w1 ⟨rfl, rfl⟩
        go_wp2_with fail
        refine (HA _).out.mono ?_
        rintro e w2 ⟨rfl, hb2⟩
        have HM2 := Lib.hid (HM.out.next hb2)
        obtain ⟨⟨s0, s1, s2, s3⟩, ⟨u0, u1, u2, u3⟩, vz⟩ := HM2.out.facts
        clear hb2
        unfold SV
        go_wp2
        exact ⟨⟨k + 1, by omega, by simp, HM2.out.put _⟩, by simp [intOf]; omega⟩
    · obtain rfl : k = 256 := by omega
      clear hlt hk r0 r1 r2 r3 f0 f1 f2 f3 hz
      have HK := Lib.hid HM.out.k3
      clear HM HIN
      generalize upto (mem (bys s)) 256 = r at *
      go_wp2_with fail
      refine Reg.wp_region_vals (fun X => K3 w w.heap.size (w.heap.size + 1) (w.heap.size + 1 + 1) p q r X) (fun j => ([some (.string s), some (.agg #[.int .u64 (sw (mem (bys s)) 0 : Nat), .int .u64 (sw (mem (bys s)) 1 : Nat), .int .u64 (sw (mem (bys s)) 2 : Nat), .int .u64 (sw (mem (bys s)) 3 : Nat)]), some (.agg #[.int .u64 (sw r 0 : Nat), .int .u64 (sw r 1 : Nat), .int .u64 (sw r 2 : Nat), .int .u64 (sw r 3 : Nat)]), some (.bool false), some (.bool false), some (.int .u8 low), some (.int .u8 high), some (.agg #[.int .u64 (sw (rng low high) 0 : Nat), .int .u64 (sw (rng low high) 1 : Nat), .int .u64 (sw (rng low high) 2 : Nat), .int .u64 (sw (rng low high) 3 : Nat)]), some (.int .u8 low), some (.int .u8 high), some (.agg #[.int .u64 (sw (rng low high) 0 : Nat), .int .u64 (sw (rng low high) 1 : Nat), .int .u64 (sw (rng low high) 2 : Nat), .int .u64 (sw (rng low high) 3 : Nat)]), some (.bool false), some (.bool false), some (.bool false), some (.agg #[.int .u64 (sw p 0 : Nat), .int .u64 (sw p 1 : Nat), .int .u64 (sw p 2 : Nat), .int .u64 (sw p 3 : Nat)]), some (.agg #[.int .u64 (sw (notP p) 0 : Nat), .int .u64 (sw (notP p) 1 : Nat), .int .u64 (sw (notP p) 2 : Nat), .int .u64 (sw (notP p) 3 : Nat)]), some (.agg #[.int .u64 (sw p 0 : Nat), .int .u64 (sw p 1 : Nat), .int .u64 (sw p 2 : Nat), .int .u64 (sw p 3 : Nat)]), some (.agg #[.int .u64 (sw (notP p) 0 : Nat), .int .u64 (sw (notP p) 1 : Nat), .int .u64 (sw (notP p) 2 : Nat), .int .u64 (sw (notP p) 3 : Nat)]), some (.bool false), some (.bool false), some (.bool false), some (.agg #[.int .u64 (sw p 0 : Nat), .int .u64 (sw p 1 : Nat), .int .u64 (sw p 2 : Nat), .int .u64 (sw p 3 : Nat)]), some (.agg #[.int .u64 (sw q 0 : Nat), .int .u64 (sw q 1 : Nat), .int .u64 (sw q 2 : Nat), .int .u64 (sw q 3 : Nat)]), none, some (.agg #[.int .u64 (sw (orP p q) 0 : Nat), .int .u64 (sw (orP p q) 1 : Nat), .int .u64 (sw (orP p q) 2 : Nat), .int .u64 (sw (orP p q) 3 : Nat)]), some (.agg #[.int .u64 (sw p 0 : Nat), .int .u64 (sw p 1 : Nat), .int .u64 (sw p 2 : Nat), .int .u64 (sw p 3 : Nat)]), some (.agg #[.int .u64 (sw q 0 : Nat), .int .u64 (sw q 1 : Nat), .int .u64 (sw q 2 : Nat), .int .u64 (sw q 3 : Nat)]), some (.agg #[.int .u64 (sw (orP p q) 0 : Nat), .int .u64 (sw (orP p q) 1 : Nat), .int .u64 (sw (orP p q) 2 : Nat), .int .u64 (sw (orP p q) 3 : Nat)]), some (.bool false), some (.bool false), some (.bool false), some (.agg #[.int .u64 (sw noP 0 : Nat), .int .u64 (sw noP 1 : Nat), .int .u64 (sw noP 2 : Nat), .int .u64 (sw noP 3 : Nat)]), some (.agg #[.int .u64 0, .int .u64 0, .int .u64 0, .int .u64 0]), some (.bool false), some (.bool false)] : List (Option Value)).getD j none) (fun _ x X => ∃ b, x = .slice (some ⟨b, 0, none⟩) 2 2 ∧ Row4 X b 0 p ∧ Row4 X b 4 q ∧ b < X.heap.size) (by kernel_rfl) (by kernel_rfl) (by kernel_rfl) (by kernel_rfl) ?rs0 ?rsE ?rsZ
      case rs0 => exact HK.out.drew
      case rsE =>
        refine Reg.EachV.plain rfl (fun T X hS hk K hK => ?_) ?_
        · skip
          have g0 : T[0]? = some (.string s) := hk.old 0 (by kernel_rfl) rfl
          have hK := hK _ X hS (Reg.Is.of_val rfl) (fun _ _ _ h => h)
          clear hk
          go_simp
          exact hK
        refine Reg.EachV.plain rfl (fun T X hS hk K hK => ?_) ?_
        · skip
          have g27 : T[27]? = some (.string s) := hk.val 0 27 (by kernel_rfl) (by kernel_rfl) rfl
          clear hk
          go_simp
          refine ((COf _).out).mono ?_
          rintro e w1 ⟨rfl, hb⟩
          exact hK _ _ (hS.nxt hb) (Reg.Is.of_val rfl) (by rintro j x hj ⟨b, rfl, h1, h2, h3⟩; exact ⟨b, rfl, row4_keep h1 hb h3, row4_keep h2 hb h3, Nat.lt_of_lt_of_le h3 hb.size⟩)
        refine Reg.EachV.plain rfl (fun T X hS hk K hK => ?_) ?_
        · skip
          have g11 : T[11]? = some (.pointer (some ⟨w.heap.size + 1 + 1, 0, none⟩)) := hk.old 11 (by kernel_rfl) rfl
          have hS' := hS
          obtain ⟨_, y0, y1, y2, y3, y4, y5, y6, y7, y8, y9, y10, y11, _, _, _⟩ := hS'
          have hK := hK _ X hS (Reg.Is.of_val rfl) (fun _ _ _ h => h)
          clear hk
          go_simp
          exact hK
        refine Reg.EachV.plain rfl (fun T X hS hk K hK => ?_) ?_
        · skip
          have g28 : T[28]? = some (.agg #[.int .u64 (sw (mem (bys s)) 0 : Nat), .int .u64 (sw (mem (bys s)) 1 : Nat), .int .u64 (sw (mem (bys s)) 2 : Nat), .int .u64 (sw (mem (bys s)) 3 : Nat)]) := hk.val 1 28 (by kernel_rfl) (by kernel_rfl) rfl
          have g29 : T[29]? = some (.agg #[.int .u64 (sw r 0 : Nat), .int .u64 (sw r 1 : Nat), .int .u64 (sw r 2 : Nat), .int .u64 (sw r 3 : Nat)]) := hk.val 2 29 (by kernel_rfl) (by kernel_rfl) rfl
          have q1 := EOf.out
          have hK := hK _ X hS (Reg.Is.of_val rfl) (fun _ _ _ h => h)
          clear hk
          go_simp
          exact hK
        refine Reg.EachV.plain rfl (fun T X hS hk K hK => ?_) ?_
        · skip
          have g30 : T[30]? = some (.bool false) := hk.val 3 30 (by kernel_rfl) (by kernel_rfl) rfl
          have hK := hK _ X hS (Reg.Is.of_val rfl) (fun _ _ _ h => h)
          clear hk
          go_simp
          exact hK
        refine Reg.EachV.guarded 4 31 false rfl (by kernel_rfl) (by kernel_rfl) rfl (fun T X hS hk K hK => ?_) ?_
        · skip
          have g1 : T[1]? = some (.int .u8 low) := hk.old 1 (by kernel_rfl) rfl
          have hK := hK _ X hS (Reg.Is.of_val rfl) (fun _ _ _ h => h)
          clear hk
          go_simp
          exact hK
        refine Reg.EachV.guarded 4 31 false rfl (by kernel_rfl) (by kernel_rfl) rfl (fun T X hS hk K hK => ?_) ?_
        · skip
          have g2 : T[2]? = some (.int .u8 high) := hk.old 2 (by kernel_rfl) rfl
          have hK := hK _ X hS (Reg.Is.of_val rfl) (fun _ _ _ h => h)
          clear hk
          go_simp
          exact hK
        refine Reg.EachV.guarded 4 31 false rfl (by kernel_rfl) (by kernel_rfl) rfl (fun T X hS hk K hK => ?_) ?_
        · skip
          have g32 : T[32]? = some (.int .u8 low) := hk.val 5 32 (by kernel_rfl) (by kernel_rfl) rfl
          have g33 : T[33]? = some (.int .u8 high) := hk.val 6 33 (by kernel_rfl) (by kernel_rfl) rfl
          clear hk
          go_simp
          refine ((CRa _).out).mono ?_
          rintro e w1 ⟨rfl, hb⟩
          exact hK _ _ (hS.nxt hb) (Reg.Is.of_val rfl) (by rintro j x hj ⟨b, rfl, h1, h2, h3⟩; exact ⟨b, rfl, row4_keep h1 hb h3, row4_keep h2 hb h3, Nat.lt_of_lt_of_le h3 hb.size⟩)
        refine Reg.EachV.guarded 4 31 false rfl (by kernel_rfl) (by kernel_rfl) rfl (fun T X hS hk K hK => ?_) ?_
        · skip
          have g1 : T[1]? = some (.int .u8 low) := hk.old 1 (by kernel_rfl) rfl
          have hK := hK _ X hS (Reg.Is.of_val rfl) (fun _ _ _ h => h)
          clear hk
          go_simp
          exact hK
        refine Reg.EachV.guarded 4 31 false rfl (by kernel_rfl) (by kernel_rfl) rfl (fun T X hS hk K hK => ?_) ?_
        · skip
          have g2 : T[2]? = some (.int .u8 high) := hk.old 2 (by kernel_rfl) rfl
          have hK := hK _ X hS (Reg.Is.of_val rfl) (fun _ _ _ h => h)
          clear hk
          go_simp
          exact hK
        refine Reg.EachV.guarded 4 31 false rfl (by kernel_rfl) (by kernel_rfl) rfl (fun T X hS hk K hK => ?_) ?_
        · skip
          have g35 : T[35]? = some (.int .u8 low) := hk.val 8 35 (by kernel_rfl) (by kernel_rfl) rfl
          have g36 : T[36]? = some (.int .u8 high) := hk.val 9 36 (by kernel_rfl) (by kernel_rfl) rfl
          clear hk
          go_simp
          refine ((CRr _).out).mono ?_
          rintro e w1 ⟨rfl, hb⟩
          exact hK _ _ (hS.nxt hb) (Reg.Is.of_val rfl) (by rintro j x hj ⟨b, rfl, h1, h2, h3⟩; exact ⟨b, rfl, row4_keep h1 hb h3, row4_keep h2 hb h3, Nat.lt_of_lt_of_le h3 hb.size⟩)
        refine Reg.EachV.guarded 4 31 false rfl (by kernel_rfl) (by kernel_rfl) rfl (fun T X hS hk K hK => ?_) ?_
        · skip
          have g34 : T[34]? = some (.agg #[.int .u64 (sw (rng low high) 0 : Nat), .int .u64 (sw (rng low high) 1 : Nat), .int .u64 (sw (rng low high) 2 : Nat), .int .u64 (sw (rng low high) 3 : Nat)]) := hk.val 7 34 (by kernel_rfl) (by kernel_rfl) rfl
          have g37 : T[37]? = some (.agg #[.int .u64 (sw (rng low high) 0 : Nat), .int .u64 (sw (rng low high) 1 : Nat), .int .u64 (sw (rng low high) 2 : Nat), .int .u64 (sw (rng low high) 3 : Nat)]) := hk.val 10 37 (by kernel_rfl) (by kernel_rfl) rfl
          have q1 := ERa.out
          have hK := hK _ X hS (Reg.Is.of_val rfl) (fun _ _ _ h => h)
          clear hk
          go_simp
          exact hK
        refine Reg.EachV.plain rfl (fun T X hS hk K hK => ?_) ?_
        · skip
          have g31 : T[31]? = some (.bool false) := hk.val 4 31 (by kernel_rfl) (by kernel_rfl) rfl
          have g38 : T[38]? = some (.bool false) := hk.val 11 38 (by kernel_rfl) (by kernel_rfl) rfl
          have hK := hK _ X hS (Reg.Is.of_val rfl) (fun _ _ _ h => h)
          clear hk
          go_simp
          exact hK
        refine Reg.EachV.plain rfl (fun T X hS hk K hK => ?_) ?_
        · skip
          have g39 : T[39]? = some (.bool false) := hk.val 12 39 (by kernel_rfl) (by kernel_rfl) rfl
          have hK := hK _ X hS (Reg.Is.of_val rfl) (fun _ _ _ h => h)
          clear hk
          go_simp
          exact hK
        refine Reg.EachV.guarded 13 40 false rfl (by kernel_rfl) (by kernel_rfl) rfl (fun T X hS hk K hK => ?_) ?_
        · skip
          have g8 : T[8]? = some (.pointer (some ⟨w.heap.size, 0, none⟩)) := hk.old 8 (by kernel_rfl) rfl
          have hS' := hS
          obtain ⟨_, y0, y1, y2, y3, y4, y5, y6, y7, y8, y9, y10, y11, _, _, _⟩ := hS'
          have hK := hK _ X hS (Reg.Is.of_val rfl) (fun _ _ _ h => h)
          clear hk
          go_simp
          exact hK
        refine Reg.EachV.guarded 13 40 false rfl (by kernel_rfl) (by kernel_rfl) rfl (fun T X hS hk K hK => ?_) ?_
        · skip
          have g41 : T[41]? = some (.agg #[.int .u64 (sw p 0 : Nat), .int .u64 (sw p 1 : Nat), .int .u64 (sw p 2 : Nat), .int .u64 (sw p 3 : Nat)]) := hk.val 14 41 (by kernel_rfl) (by kernel_rfl) rfl
          clear hk
          go_simp
          refine ((CNo _).out).mono ?_
          rintro e w1 ⟨rfl, hb⟩
          exact hK _ _ (hS.nxt hb) (Reg.Is.of_val rfl) (by rintro j x hj ⟨b, rfl, h1, h2, h3⟩; exact ⟨b, rfl, row4_keep h1 hb h3, row4_keep h2 hb h3, Nat.lt_of_lt_of_le h3 hb.size⟩)
        refine Reg.EachV.guarded 13 40 false rfl (by kernel_rfl) (by kernel_rfl) rfl (fun T X hS hk K hK => ?_) ?_
        · skip
          have g8 : T[8]? = some (.pointer (some ⟨w.heap.size, 0, none⟩)) := hk.old 8 (by kernel_rfl) rfl
          have hS' := hS
          obtain ⟨_, y0, y1, y2, y3, y4, y5, y6, y7, y8, y9, y10, y11, _, _, _⟩ := hS'
          have hK := hK _ X hS (Reg.Is.of_val rfl) (fun _ _ _ h => h)
          clear hk
          go_simp
          exact hK
        refine Reg.EachV.guarded 13 40 false rfl (by kernel_rfl) (by kernel_rfl) rfl (fun T X hS hk K hK => ?_) ?_
        · skip
          have g43 : T[43]? = some (.agg #[.int .u64 (sw p 0 : Nat), .int .u64 (sw p 1 : Nat), .int .u64 (sw p 2 : Nat), .int .u64 (sw p 3 : Nat)]) := hk.val 16 43 (by kernel_rfl) (by kernel_rfl) rfl
          clear hk
          go_simp
          refine ((CNr _).out).mono ?_
          rintro e w1 ⟨rfl, hb⟩
          exact hK _ _ (hS.nxt hb) (Reg.Is.of_val rfl) (by rintro j x hj ⟨b, rfl, h1, h2, h3⟩; exact ⟨b, rfl, row4_keep h1 hb h3, row4_keep h2 hb h3, Nat.lt_of_lt_of_le h3 hb.size⟩)
        refine Reg.EachV.guarded 13 40 false rfl (by kernel_rfl) (by kernel_rfl) rfl (fun T X hS hk K hK => ?_) ?_
        · skip
          have g42 : T[42]? = some (.agg #[.int .u64 (sw (notP p) 0 : Nat), .int .u64 (sw (notP p) 1 : Nat), .int .u64 (sw (notP p) 2 : Nat), .int .u64 (sw (notP p) 3 : Nat)]) := hk.val 15 42 (by kernel_rfl) (by kernel_rfl) rfl
          have g44 : T[44]? = some (.agg #[.int .u64 (sw (notP p) 0 : Nat), .int .u64 (sw (notP p) 1 : Nat), .int .u64 (sw (notP p) 2 : Nat), .int .u64 (sw (notP p) 3 : Nat)]) := hk.val 17 44 (by kernel_rfl) (by kernel_rfl) rfl
          have q1 := ENo.out
          have hK := hK _ X hS (Reg.Is.of_val rfl) (fun _ _ _ h => h)
          clear hk
          go_simp
          exact hK
        refine Reg.EachV.plain rfl (fun T X hS hk K hK => ?_) ?_
        · skip
          have g40 : T[40]? = some (.bool false) := hk.val 13 40 (by kernel_rfl) (by kernel_rfl) rfl
          have g45 : T[45]? = some (.bool false) := hk.val 18 45 (by kernel_rfl) (by kernel_rfl) rfl
          have hK := hK _ X hS (Reg.Is.of_val rfl) (fun _ _ _ h => h)
          clear hk
          go_simp
          exact hK
        refine Reg.EachV.plain rfl (fun T X hS hk K hK => ?_) ?_
        · skip
          have g46 : T[46]? = some (.bool false) := hk.val 19 46 (by kernel_rfl) (by kernel_rfl) rfl
          have hK := hK _ X hS (Reg.Is.of_val rfl) (fun _ _ _ h => h)
          clear hk
          go_simp
          exact hK
        refine Reg.EachV.guarded 20 47 false rfl (by kernel_rfl) (by kernel_rfl) rfl (fun T X hS hk K hK => ?_) ?_
        · skip
          have g8 : T[8]? = some (.pointer (some ⟨w.heap.size, 0, none⟩)) := hk.old 8 (by kernel_rfl) rfl
          have hS' := hS
          obtain ⟨_, y0, y1, y2, y3, y4, y5, y6, y7, y8, y9, y10, y11, _, _, _⟩ := hS'
          have hK := hK _ X hS (Reg.Is.of_val rfl) (fun _ _ _ h => h)
          clear hk
          go_simp
          exact hK
        refine Reg.EachV.guarded 20 47 false rfl (by kernel_rfl) (by kernel_rfl) rfl (fun T X hS hk K hK => ?_) ?_
        · skip
          have g9 : T[9]? = some (.pointer (some ⟨w.heap.size + 1, 0, none⟩)) := hk.old 9 (by kernel_rfl) rfl
          have hS' := hS
          obtain ⟨_, y0, y1, y2, y3, y4, y5, y6, y7, y8, y9, y10, y11, _, _, _⟩ := hS'
          have hK := hK _ X hS (Reg.Is.of_val rfl) (fun _ _ _ h => h)
          clear hk
          go_simp
          exact hK
        refine Reg.EachV.guarded 20 47 false rfl (by kernel_rfl) (by kernel_rfl) rfl (fun T X hS hk K hK => ?_) ?_
        · skip
          have g48 : T[48]? = some (.agg #[.int .u64 (sw p 0 : Nat), .int .u64 (sw p 1 : Nat), .int .u64 (sw p 2 : Nat), .int .u64 (sw p 3 : Nat)]) := hk.val 21 48 (by kernel_rfl) (by kernel_rfl) rfl
          have g49 : T[49]? = some (.agg #[.int .u64 (sw q 0 : Nat), .int .u64 (sw q 1 : Nat), .int .u64 (sw q 2 : Nat), .int .u64 (sw q 3 : Nat)]) := hk.val 22 49 (by kernel_rfl) (by kernel_rfl) rfl
          clear hk
          go_simp
          refine hK _ _ (hS.alo _) (Reg.Is.of_prop rfl ⟨X.heap.size, rfl, (row4_two _ _ _ _).1, (row4_two _ _ _ _).2, by simp⟩) ?_
          rintro j x hj ⟨b, rfl, h1, h2, h3⟩
          exact ⟨b, rfl, row4_keep h1 ((Below.refl _ _).alloc (Nat.le_refl _) _) h3, row4_keep h2 ((Below.refl _ _).alloc (Nat.le_refl _) _) h3, by simp; omega⟩
        refine Reg.EachV.guarded 20 47 false rfl (by kernel_rfl) (by kernel_rfl) rfl (fun T X hS hk K hK => ?_) ?_
        · skip
          obtain ⟨x50, g50, r50⟩ := hk.prop 23 50 (by kernel_rfl) (by kernel_rfl) rfl
          obtain ⟨b, rfl, h1, h2, h3⟩ := r50
          clear hk
          go_simp
          refine (CUn.out _ b h1 h2 h3).mono ?_
          rintro e w1 ⟨rfl, hb⟩
          refine hK _ _ (hS.nxt hb) (Reg.Is.of_val rfl) ?_
          rintro j x hj ⟨b, rfl, h1, h2, h3⟩
          exact ⟨b, rfl, row4_keep h1 hb h3, row4_keep h2 hb h3, Nat.lt_of_lt_of_le h3 hb.size⟩
        refine Reg.EachV.guarded 20 47 false rfl (by kernel_rfl) (by kernel_rfl) rfl (fun T X hS hk K hK => ?_) ?_
        · skip
          have g8 : T[8]? = some (.pointer (some ⟨w.heap.size, 0, none⟩)) := hk.old 8 (by kernel_rfl) rfl
          have hS' := hS
          obtain ⟨_, y0, y1, y2, y3, y4, y5, y6, y7, y8, y9, y10, y11, _, _, _⟩ := hS'
          have hK := hK _ X hS (Reg.Is.of_val rfl) (fun _ _ _ h => h)
          clear hk
          go_simp
          exact hK
        refine Reg.EachV.guarded 20 47 false rfl (by kernel_rfl) (by kernel_rfl) rfl (fun T X hS hk K hK => ?_) ?_
        · skip
          have g9 : T[9]? = some (.pointer (some ⟨w.heap.size + 1, 0, none⟩)) := hk.old 9 (by kernel_rfl) rfl
          have hS' := hS
          obtain ⟨_, y0, y1, y2, y3, y4, y5, y6, y7, y8, y9, y10, y11, _, _, _⟩ := hS'
          have hK := hK _ X hS (Reg.Is.of_val rfl) (fun _ _ _ h => h)
          clear hk
          go_simp
          exact hK
        refine Reg.EachV.guarded 20 47 false rfl (by kernel_rfl) (by kernel_rfl) rfl (fun T X hS hk K hK => ?_) ?_
        · skip
          have g52 : T[52]? = some (.agg #[.int .u64 (sw p 0 : Nat), .int .u64 (sw p 1 : Nat), .int .u64 (sw p 2 : Nat), .int .u64 (sw p 3 : Nat)]) := hk.val 25 52 (by kernel_rfl) (by kernel_rfl) rfl
          have g53 : T[53]? = some (.agg #[.int .u64 (sw q 0 : Nat), .int .u64 (sw q 1 : Nat), .int .u64 (sw q 2 : Nat), .int .u64 (sw q 3 : Nat)]) := hk.val 26 53 (by kernel_rfl) (by kernel_rfl) rfl
          clear hk
          go_simp
          refine ((COr _).out).mono ?_
          rintro e w1 ⟨rfl, hb⟩
          exact hK _ _ (hS.nxt hb) (Reg.Is.of_val rfl) (by rintro j x hj ⟨b, rfl, h1, h2, h3⟩; exact ⟨b, rfl, row4_keep h1 hb h3, row4_keep h2 hb h3, Nat.lt_of_lt_of_le h3 hb.size⟩)
        refine Reg.EachV.guarded 20 47 false rfl (by kernel_rfl) (by kernel_rfl) rfl (fun T X hS hk K hK => ?_) ?_
        · skip
          have g51 : T[51]? = some (.agg #[.int .u64 (sw (orP p q) 0 : Nat), .int .u64 (sw (orP p q) 1 : Nat), .int .u64 (sw (orP p q) 2 : Nat), .int .u64 (sw (orP p q) 3 : Nat)]) := hk.val 24 51 (by kernel_rfl) (by kernel_rfl) rfl
          have g54 : T[54]? = some (.agg #[.int .u64 (sw (orP p q) 0 : Nat), .int .u64 (sw (orP p q) 1 : Nat), .int .u64 (sw (orP p q) 2 : Nat), .int .u64 (sw (orP p q) 3 : Nat)]) := hk.val 27 54 (by kernel_rfl) (by kernel_rfl) rfl
          have q1 := EUn.out
          have hK := hK _ X hS (Reg.Is.of_val rfl) (fun _ _ _ h => h)
          clear hk
          go_simp
          exact hK
        refine Reg.EachV.plain rfl (fun T X hS hk K hK => ?_) ?_
        · skip
          have g47 : T[47]? = some (.bool false) := hk.val 20 47 (by kernel_rfl) (by kernel_rfl) rfl
          have g55 : T[55]? = some (.bool false) := hk.val 28 55 (by kernel_rfl) (by kernel_rfl) rfl
          have hK := hK _ X hS (Reg.Is.of_val rfl) (fun _ _ _ h => h)
          clear hk
          go_simp
          exact hK
        refine Reg.EachV.plain rfl (fun T X hS hk K hK => ?_) ?_
        · skip
          have g56 : T[56]? = some (.bool false) := hk.val 29 56 (by kernel_rfl) (by kernel_rfl) rfl
          have hK := hK _ X hS (Reg.Is.of_val rfl) (fun _ _ _ h => h)
          clear hk
          go_simp
          exact hK
        refine Reg.EachV.guarded 30 57 false rfl (by kernel_rfl) (by kernel_rfl) rfl (fun T X hS hk K hK => ?_) ?_
        · skip
          clear hk
          go_simp
          refine ((CUz _).out).mono ?_
          rintro e w1 ⟨rfl, hb⟩
          exact hK _ _ (hS.nxt hb) (Reg.Is.of_val rfl) (by rintro j x hj ⟨b, rfl, h1, h2, h3⟩; exact ⟨b, rfl, row4_keep h1 hb h3, row4_keep h2 hb h3, Nat.lt_of_lt_of_le h3 hb.size⟩)
        refine Reg.EachV.guarded 30 57 false rfl (by kernel_rfl) (by kernel_rfl) rfl (fun T X hS hk K hK => ?_) ?_
        · skip
          have hK := hK _ X hS (Reg.Is.of_val rfl) (fun _ _ _ h => h)
          clear hk
          go_simp
          exact hK
        refine Reg.EachV.guarded 30 57 false rfl (by kernel_rfl) (by kernel_rfl) rfl (fun T X hS hk K hK => ?_) ?_
        · skip
          have g58 : T[58]? = some (.agg #[.int .u64 (sw noP 0 : Nat), .int .u64 (sw noP 1 : Nat), .int .u64 (sw noP 2 : Nat), .int .u64 (sw noP 3 : Nat)]) := hk.val 31 58 (by kernel_rfl) (by kernel_rfl) rfl
          have g59 : T[59]? = some (.agg #[.int .u64 0, .int .u64 0, .int .u64 0, .int .u64 0]) := hk.val 32 59 (by kernel_rfl) (by kernel_rfl) rfl
          have q1 := EZz.out
          simp only [HZ.out] at q1
          have z := HZ.out
          have hK := hK _ X hS (Reg.Is.of_val rfl) (fun _ _ _ h => h)
          clear hk
          go_simp
          exact hK
        refine Reg.EachV.plain rfl (fun T X hS hk K hK => ?_) ?_
        · skip
          have g57 : T[57]? = some (.bool false) := hk.val 30 57 (by kernel_rfl) (by kernel_rfl) rfl
          have g60 : T[60]? = some (.bool false) := hk.val 33 60 (by kernel_rfl) (by kernel_rfl) rfl
          have hK := hK _ X hS (Reg.Is.of_val rfl) (fun _ _ _ h => h)
          clear hk
          go_simp
          exact hK
        exact Reg.EachV.nil
      case rsZ =>
        intro u w1 hS hI
        have e0 : u 0 = .string s := (hI 0 (by decide)).val rfl
        have e1 : u 1 = .agg #[.int .u64 (sw (mem (bys s)) 0 : Nat), .int .u64 (sw (mem (bys s)) 1 : Nat), .int .u64 (sw (mem (bys s)) 2 : Nat), .int .u64 (sw (mem (bys s)) 3 : Nat)] := (hI 1 (by decide)).val rfl
        have e2 : u 2 = .agg #[.int .u64 (sw r 0 : Nat), .int .u64 (sw r 1 : Nat), .int .u64 (sw r 2 : Nat), .int .u64 (sw r 3 : Nat)] := (hI 2 (by decide)).val rfl
        have e3 : u 3 = .bool false := (hI 3 (by decide)).val rfl
        have e4 : u 4 = .bool false := (hI 4 (by decide)).val rfl
        have e5 : u 5 = .int .u8 low := (hI 5 (by decide)).val rfl
        have e6 : u 6 = .int .u8 high := (hI 6 (by decide)).val rfl
        have e7 : u 7 = .agg #[.int .u64 (sw (rng low high) 0 : Nat), .int .u64 (sw (rng low high) 1 : Nat), .int .u64 (sw (rng low high) 2 : Nat), .int .u64 (sw (rng low high) 3 : Nat)] := (hI 7 (by decide)).val rfl
        have e8 : u 8 = .int .u8 low := (hI 8 (by decide)).val rfl
        have e9 : u 9 = .int .u8 high := (hI 9 (by decide)).val rfl
        have e10 : u 10 = .agg #[.int .u64 (sw (rng low high) 0 : Nat), .int .u64 (sw (rng low high) 1 : Nat), .int .u64 (sw (rng low high) 2 : Nat), .int .u64 (sw (rng low high) 3 : Nat)] := (hI 10 (by decide)).val rfl
        have e11 : u 11 = .bool false := (hI 11 (by decide)).val rfl
        have e12 : u 12 = .bool false := (hI 12 (by decide)).val rfl
        have e13 : u 13 = .bool false := (hI 13 (by decide)).val rfl
        have e14 : u 14 = .agg #[.int .u64 (sw p 0 : Nat), .int .u64 (sw p 1 : Nat), .int .u64 (sw p 2 : Nat), .int .u64 (sw p 3 : Nat)] := (hI 14 (by decide)).val rfl
        have e15 : u 15 = .agg #[.int .u64 (sw (notP p) 0 : Nat), .int .u64 (sw (notP p) 1 : Nat), .int .u64 (sw (notP p) 2 : Nat), .int .u64 (sw (notP p) 3 : Nat)] := (hI 15 (by decide)).val rfl
        have e16 : u 16 = .agg #[.int .u64 (sw p 0 : Nat), .int .u64 (sw p 1 : Nat), .int .u64 (sw p 2 : Nat), .int .u64 (sw p 3 : Nat)] := (hI 16 (by decide)).val rfl
        have e17 : u 17 = .agg #[.int .u64 (sw (notP p) 0 : Nat), .int .u64 (sw (notP p) 1 : Nat), .int .u64 (sw (notP p) 2 : Nat), .int .u64 (sw (notP p) 3 : Nat)] := (hI 17 (by decide)).val rfl
        have e18 : u 18 = .bool false := (hI 18 (by decide)).val rfl
        have e19 : u 19 = .bool false := (hI 19 (by decide)).val rfl
        have e20 : u 20 = .bool false := (hI 20 (by decide)).val rfl
        have e21 : u 21 = .agg #[.int .u64 (sw p 0 : Nat), .int .u64 (sw p 1 : Nat), .int .u64 (sw p 2 : Nat), .int .u64 (sw p 3 : Nat)] := (hI 21 (by decide)).val rfl
        have e22 : u 22 = .agg #[.int .u64 (sw q 0 : Nat), .int .u64 (sw q 1 : Nat), .int .u64 (sw q 2 : Nat), .int .u64 (sw q 3 : Nat)] := (hI 22 (by decide)).val rfl
        have e23 := (hI 23 (by decide)).prop rfl
        have e24 : u 24 = .agg #[.int .u64 (sw (orP p q) 0 : Nat), .int .u64 (sw (orP p q) 1 : Nat), .int .u64 (sw (orP p q) 2 : Nat), .int .u64 (sw (orP p q) 3 : Nat)] := (hI 24 (by decide)).val rfl
        have e25 : u 25 = .agg #[.int .u64 (sw p 0 : Nat), .int .u64 (sw p 1 : Nat), .int .u64 (sw p 2 : Nat), .int .u64 (sw p 3 : Nat)] := (hI 25 (by decide)).val rfl
        have e26 : u 26 = .agg #[.int .u64 (sw q 0 : Nat), .int .u64 (sw q 1 : Nat), .int .u64 (sw q 2 : Nat), .int .u64 (sw q 3 : Nat)] := (hI 26 (by decide)).val rfl
        have e27 : u 27 = .agg #[.int .u64 (sw (orP p q) 0 : Nat), .int .u64 (sw (orP p q) 1 : Nat), .int .u64 (sw (orP p q) 2 : Nat), .int .u64 (sw (orP p q) 3 : Nat)] := (hI 27 (by decide)).val rfl
        have e28 : u 28 = .bool false := (hI 28 (by decide)).val rfl
        have e29 : u 29 = .bool false := (hI 29 (by decide)).val rfl
        have e30 : u 30 = .bool false := (hI 30 (by decide)).val rfl
        have e31 : u 31 = .agg #[.int .u64 (sw noP 0 : Nat), .int .u64 (sw noP 1 : Nat), .int .u64 (sw noP 2 : Nat), .int .u64 (sw noP 3 : Nat)] := (hI 31 (by decide)).val rfl
        have e32 : u 32 = .agg #[.int .u64 0, .int .u64 0, .int .u64 0, .int .u64 0] := (hI 32 (by decide)).val rfl
        have e33 : u 33 = .bool false := (hI 33 (by decide)).val rfl
        have e34 : u 34 = .bool false := (hI 34 (by decide)).val rfl
        clear hI
        simp only [Reg.putAll, Act.put, List.setIfInBounds_toArray, List.set_cons_succ, List.set_cons_zero, Nat.zero_add, Nat.reduceAdd, e0, e1, e2, e3, e4, e5, e6, e7, e8, e9, e10, e11, e12, e13, e14, e15, e16, e17, e18, e19, e20, e21, e22, e24, e25, e26, e27, e28, e29, e30, e31, e32, e33, e34]
        clear e0 e1 e2 e3 e4 e5 e6 e7 e8 e9 e10 e11 e12 e13 e14 e15 e16 e17 e18 e19 e20 e21 e22 e24 e25 e26 e27 e28 e29 e30 e31 e32 e33 e34
        have HS := Lib.hid hS
        clear e23
        obtain ⟨_, y0, y1, y2, y3, y4, y5, y6, y7, y8, y9, y10, y11, _, _, _⟩ := hS
        go_wp2_with fail
        refine (rbytes_any p _).mono ?_
        rintro e w2 ⟨v, rfl, hown, hb2⟩
        have HK2 := Lib.hid (HS.out.nxt hb2)
        have HL2 := Lib.hid (slOwnedM hown (byL_byt p 256 (Nat.le_refl _)) (by have := byL_len p 256; omega))
        obtain ⟨_, a0, cap, rfl⟩ := own_shapeK hown
        clear hown hb2 y0 y1 y2 y3 y4 y5 y6 y7 y8 y9 y10 y11 HS
        have hcl := cntS_len p
        generalize cntS p = n at *
        subst hcl
        go_wp2_with fail
        refine Reg.wp_region_vals (fun X => K3 w w.heap.size (w.heap.size + 1) (w.heap.size + 1 + 1) p q r X ∧ Sl X (.slice a0 (byL p 256).length cap) (byL p 256)) (fun j => ([some (.agg #[.int .u64 (sw p 0 : Nat), .int .u64 (sw p 1 : Nat), .int .u64 (sw p 2 : Nat), .int .u64 (sw p 3 : Nat)]), some (.int .u8 low), some (.bool (p low)), some (.agg #[.int .u64 (sw p 0 : Nat), .int .u64 (sw p 1 : Nat), .int .u64 (sw p 2 : Nat), .int .u64 (sw p 3 : Nat)]), some (.int .u8 low), some (.bool (p low)), some (.bool true), some (.bool true), some (.agg #[.int .u64 (sw p 0 : Nat), .int .u64 (sw p 1 : Nat), .int .u64 (sw p 2 : Nat), .int .u64 (sw p 3 : Nat)]), some (.int .i64 ((byL p 256).length : Nat)), some (.slice a0 (byL p 256).length cap), some (.int .i64 ((byL p 256).length : Nat)), some (.bool true), some (.bool true), some (.bool true), some (.agg #[.int .u64 (sw p 0 : Nat), .int .u64 (sw p 1 : Nat), .int .u64 (sw p 2 : Nat), .int .u64 (sw p 3 : Nat)]), none, some (.slice a0 (byL p 256).length cap), some (.bool true), some (.bool true), some (.bool true), some (.bool true), some (.bool true), some (.bool true)] : List (Option Value)).getD j none) (fun _ x X => Sl X x (byL p 256)) (by kernel_rfl) (by kernel_rfl) (by kernel_rfl) (by kernel_rfl) ?rs0 ?rsE ?rsZ
        case rs0 => exact ⟨HK2.out.drew, HL2.out.below (Below.refl _ _).drew⟩
        case rsE =>
          refine Reg.EachV.plain rfl (fun T X hS hk K hK => ?_) ?_
          · skip
            have g8 : T[8]? = some (.pointer (some ⟨w.heap.size, 0, none⟩)) := hk.old 8 (by kernel_rfl) rfl
            have hS' := hS.1
            obtain ⟨_, y0, y1, y2, y3, y4, y5, y6, y7, y8, y9, y10, y11, _, _, _⟩ := hS'
            have hK := hK _ X hS (Reg.Is.of_val rfl) (fun _ _ _ h => h)
            clear hk
            go_simp
            exact hK
          refine Reg.EachV.plain rfl (fun T X hS hk K hK => ?_) ?_
          · skip
            have g1 : T[1]? = some (.int .u8 low) := hk.old 1 (by kernel_rfl) rfl
            have hK := hK _ X hS (Reg.Is.of_val rfl) (fun _ _ _ h => h)
            clear hk
            go_simp
            exact hK
          refine Reg.EachV.plain rfl (fun T X hS hk K hK => ?_) ?_
          · skip
            have g64 : T[64]? = some (.agg #[.int .u64 (sw p 0 : Nat), .int .u64 (sw p 1 : Nat), .int .u64 (sw p 2 : Nat), .int .u64 (sw p 3 : Nat)]) := hk.val 0 64 (by kernel_rfl) (by kernel_rfl) rfl
            have g65 : T[65]? = some (.int .u8 low) := hk.val 1 65 (by kernel_rfl) (by kernel_rfl) rfl
            clear hk
            go_simp
            refine ((CHa _).out).mono ?_
            rintro e w1 ⟨rfl, hb⟩
            exact hK _ _ (⟨hS.1.nxt hb, hS.2.below hb⟩) (Reg.Is.of_val rfl) (fun _ _ _ h => h.below hb)
          refine Reg.EachV.plain rfl (fun T X hS hk K hK => ?_) ?_
          · skip
            have g8 : T[8]? = some (.pointer (some ⟨w.heap.size, 0, none⟩)) := hk.old 8 (by kernel_rfl) rfl
            have hS' := hS.1
            obtain ⟨_, y0, y1, y2, y3, y4, y5, y6, y7, y8, y9, y10, y11, _, _, _⟩ := hS'
            have hK := hK _ X hS (Reg.Is.of_val rfl) (fun _ _ _ h => h)
            clear hk
            go_simp
            exact hK
          refine Reg.EachV.plain rfl (fun T X hS hk K hK => ?_) ?_
          · skip
            have g1 : T[1]? = some (.int .u8 low) := hk.old 1 (by kernel_rfl) rfl
            have hK := hK _ X hS (Reg.Is.of_val rfl) (fun _ _ _ h => h)
            clear hk
            go_simp
            exact hK
          refine Reg.EachV.plain rfl (fun T X hS hk K hK => ?_) ?_
          · skip
            have g67 : T[67]? = some (.agg #[.int .u64 (sw p 0 : Nat), .int .u64 (sw p 1 : Nat), .int .u64 (sw p 2 : Nat), .int .u64 (sw p 3 : Nat)]) := hk.val 3 67 (by kernel_rfl) (by kernel_rfl) rfl
            have g68 : T[68]? = some (.int .u8 low) := hk.val 4 68 (by kernel_rfl) (by kernel_rfl) rfl
            clear hk
            go_simp
            refine ((CHr _).out).mono ?_
            rintro e w1 ⟨rfl, hb⟩
            exact hK _ _ (⟨hS.1.nxt hb, hS.2.below hb⟩) (Reg.Is.of_val rfl) (fun _ _ _ h => h.below hb)
          refine Reg.EachV.plain rfl (fun T X hS hk K hK => ?_) ?_
          · skip
            have g66 : T[66]? = some (.bool (p low)) := hk.val 2 66 (by kernel_rfl) (by kernel_rfl) rfl
            have g69 : T[69]? = some (.bool (p low)) := hk.val 5 69 (by kernel_rfl) (by kernel_rfl) rfl
            have hK := hK _ X hS (Reg.Is.of_val rfl) (fun _ _ _ h => h)
            clear hk
            go_simp
            exact hK
          refine Reg.EachV.plain rfl (fun T X hS hk K hK => ?_) ?_
          · skip
            have g70 : T[70]? = some (.bool true) := hk.val 6 70 (by kernel_rfl) (by kernel_rfl) rfl
            have hK := hK _ X hS (Reg.Is.of_val rfl) (fun _ _ _ h => h)
            clear hk
            go_simp
            exact hK
          refine Reg.EachV.guarded 7 71 true rfl (by kernel_rfl) (by kernel_rfl) rfl (fun T X hS hk K hK => ?_) ?_
          · skip
            have g8 : T[8]? = some (.pointer (some ⟨w.heap.size, 0, none⟩)) := hk.old 8 (by kernel_rfl) rfl
            have hS' := hS.1
            obtain ⟨_, y0, y1, y2, y3, y4, y5, y6, y7, y8, y9, y10, y11, _, _, _⟩ := hS'
            have hK := hK _ X hS (Reg.Is.of_val rfl) (fun _ _ _ h => h)
            clear hk
            go_simp
            exact hK
          refine Reg.EachV.guarded 7 71 true rfl (by kernel_rfl) (by kernel_rfl) rfl (fun T X hS hk K hK => ?_) ?_
          · skip
            have g72 : T[72]? = some (.agg #[.int .u64 (sw p 0 : Nat), .int .u64 (sw p 1 : Nat), .int .u64 (sw p 2 : Nat), .int .u64 (sw p 3 : Nat)]) := hk.val 8 72 (by kernel_rfl) (by kernel_rfl) rfl
            clear hk
            go_simp
            refine ((CLe _).out).mono ?_
            rintro e w1 ⟨rfl, hb⟩
            exact hK _ _ (⟨hS.1.nxt hb, hS.2.below hb⟩) (Reg.Is.of_val rfl) (fun _ _ _ h => h.below hb)
          refine Reg.EachV.guarded 7 71 true rfl (by kernel_rfl) (by kernel_rfl) rfl (fun T X hS hk K hK => ?_) ?_
          · skip
            have g13 : T[13]? = some (.slice a0 (byL p 256).length cap) := hk.old 13 (by kernel_rfl) rfl
            have hK := hK _ X hS (Reg.Is.of_val rfl) (fun _ _ _ h => h)
            clear hk
            go_simp
            exact hK
          refine Reg.EachV.guarded 7 71 true rfl (by kernel_rfl) (by kernel_rfl) rfl (fun T X hS hk K hK => ?_) ?_
          · skip
            have g74 : T[74]? = some (.slice a0 (byL p 256).length cap) := hk.val 10 74 (by kernel_rfl) (by kernel_rfl) rfl
            have hK := hK _ X hS (Reg.Is.of_val rfl) (fun _ _ _ h => h)
            clear hk
            go_simp
            exact hK
          refine Reg.EachV.guarded 7 71 true rfl (by kernel_rfl) (by kernel_rfl) rfl (fun T X hS hk K hK => ?_) ?_
          · skip
            have g73 : T[73]? = some (.int .i64 ((byL p 256).length : Nat)) := hk.val 9 73 (by kernel_rfl) (by kernel_rfl) rfl
            have g75 : T[75]? = some (.int .i64 ((byL p 256).length : Nat)) := hk.val 11 75 (by kernel_rfl) (by kernel_rfl) rfl
            have hK := hK _ X hS (Reg.Is.of_val rfl) (fun _ _ _ h => h)
            clear hk
            go_simp
            exact hK
          refine Reg.EachV.plain rfl (fun T X hS hk K hK => ?_) ?_
          · skip
            have g71 : T[71]? = some (.bool true) := hk.val 7 71 (by kernel_rfl) (by kernel_rfl) rfl
            have g76 : T[76]? = some (.bool true) := hk.val 12 76 (by kernel_rfl) (by kernel_rfl) rfl
            have hK := hK _ X hS (Reg.Is.of_val rfl) (fun _ _ _ h => h)
            clear hk
            go_simp
            exact hK
          refine Reg.EachV.plain rfl (fun T X hS hk K hK => ?_) ?_
          · skip
            have g77 : T[77]? = some (.bool true) := hk.val 13 77 (by kernel_rfl) (by kernel_rfl) rfl
            have hK := hK _ X hS (Reg.Is.of_val rfl) (fun _ _ _ h => h)
            clear hk
            go_simp
            exact hK
          refine Reg.EachV.guarded 14 78 true rfl (by kernel_rfl) (by kernel_rfl) rfl (fun T X hS hk K hK => ?_) ?_
          · skip
            have g8 : T[8]? = some (.pointer (some ⟨w.heap.size, 0, none⟩)) := hk.old 8 (by kernel_rfl) rfl
            have hS' := hS.1
            obtain ⟨_, y0, y1, y2, y3, y4, y5, y6, y7, y8, y9, y10, y11, _, _, _⟩ := hS'
            have hK := hK _ X hS (Reg.Is.of_val rfl) (fun _ _ _ h => h)
            clear hk
            go_simp
            exact hK
          refine Reg.EachV.guarded 14 78 true rfl (by kernel_rfl) (by kernel_rfl) rfl (fun T X hS hk K hK => ?_) ?_
          · skip
            have g79 : T[79]? = some (.agg #[.int .u64 (sw p 0 : Nat), .int .u64 (sw p 1 : Nat), .int .u64 (sw p 2 : Nat), .int .u64 (sw p 3 : Nat)]) := hk.val 15 79 (by kernel_rfl) (by kernel_rfl) rfl
            clear hk
            go_simp
            refine (bytes_any p X (HT.out.below hS.1.1)).mono ?_
            rintro e w1 ⟨v, rfl, hown, hb⟩
            exact hK _ _ (⟨hS.1.nxt hb, hS.2.below hb⟩) (Reg.Is.of_prop rfl (slOwnedM hown (byL_byt p 256 (Nat.le_refl _)) (by have := byL_len p 256; omega))) (fun _ _ _ h => h.below hb)
          refine Reg.EachV.guarded 14 78 true rfl (by kernel_rfl) (by kernel_rfl) rfl (fun T X hS hk K hK => ?_) ?_
          · skip
            have g13 : T[13]? = some (.slice a0 (byL p 256).length cap) := hk.old 13 (by kernel_rfl) rfl
            have hK := hK _ X hS (Reg.Is.of_val rfl) (fun _ _ _ h => h)
            clear hk
            go_simp
            exact hK
          refine Reg.EachV.guarded 14 78 true rfl (by kernel_rfl) (by kernel_rfl) rfl (fun T X hS hk K hK => ?_) ?_
          · skip
            obtain ⟨x80, g80, r80⟩ := hk.prop 16 80 (by kernel_rfl) (by kernel_rfl) rfl
            have g81 : T[81]? = some (.slice a0 (byL p 256).length cap) := hk.val 17 81 (by kernel_rfl) (by kernel_rfl) rfl
            clear hk
            go_simp
            refine (bytesSame_any r80 hS.2).mono ?_
            rintro e w1 ⟨rfl, rfl⟩
            exact hK _ _ (hS) (Reg.Is.of_val rfl) (fun _ _ _ h => h)
          refine Reg.EachV.plain rfl (fun T X hS hk K hK => ?_) ?_
          · skip
            have g78 : T[78]? = some (.bool true) := hk.val 14 78 (by kernel_rfl) (by kernel_rfl) rfl
            have g82 : T[82]? = some (.bool true) := hk.val 18 82 (by kernel_rfl) (by kernel_rfl) rfl
            have hK := hK _ X hS (Reg.Is.of_val rfl) (fun _ _ _ h => h)
            clear hk
            go_simp
            exact hK
          refine Reg.EachV.plain rfl (fun T X hS hk K hK => ?_) ?_
          · skip
            have g83 : T[83]? = some (.bool true) := hk.val 19 83 (by kernel_rfl) (by kernel_rfl) rfl
            have hK := hK _ X hS (Reg.Is.of_val rfl) (fun _ _ _ h => h)
            clear hk
            go_simp
            exact hK
          refine Reg.EachV.guarded 20 84 true rfl (by kernel_rfl) (by kernel_rfl) rfl (fun T X hS hk K hK => ?_) ?_
          · skip
            clear hk
            go_simp
            refine ((CAw _).out).mono ?_
            rintro e w1 ⟨rfl, hb⟩
            exact hK _ _ (⟨hS.1.nxt hb, hS.2.below hb⟩) (Reg.Is.of_val rfl) (fun _ _ _ h => h.below hb)
          refine Reg.EachV.plain rfl (fun T X hS hk K hK => ?_) ?_
          · skip
            have g84 : T[84]? = some (.bool true) := hk.val 20 84 (by kernel_rfl) (by kernel_rfl) rfl
            have g85 : T[85]? = some (.bool true) := hk.val 21 85 (by kernel_rfl) (by kernel_rfl) rfl
            have hK := hK _ X hS (Reg.Is.of_val rfl) (fun _ _ _ h => h)
            clear hk
            go_simp
            exact hK
          refine Reg.EachV.plain rfl (fun T X hS hk K hK => ?_) ?_
          · skip
            have g86 : T[86]? = some (.bool true) := hk.val 22 86 (by kernel_rfl) (by kernel_rfl) rfl
            have hK := hK _ X hS (Reg.Is.of_val rfl) (fun _ _ _ h => h)
            clear hk
            go_simp
            exact hK
          exact Reg.EachV.nil
        case rsZ =>
          intro u w1 hS hI
          have e0 : u 0 = .agg #[.int .u64 (sw p 0 : Nat), .int .u64 (sw p 1 : Nat), .int .u64 (sw p 2 : Nat), .int .u64 (sw p 3 : Nat)] := (hI 0 (by decide)).val rfl
          have e1 : u 1 = .int .u8 low := (hI 1 (by decide)).val rfl
          have e2 : u 2 = .bool (p low) := (hI 2 (by decide)).val rfl
          have e3 : u 3 = .agg #[.int .u64 (sw p 0 : Nat), .int .u64 (sw p 1 : Nat), .int .u64 (sw p 2 : Nat), .int .u64 (sw p 3 : Nat)] := (hI 3 (by decide)).val rfl
          have e4 : u 4 = .int .u8 low := (hI 4 (by decide)).val rfl
          have e5 : u 5 = .bool (p low) := (hI 5 (by decide)).val rfl
          have e6 : u 6 = .bool true := (hI 6 (by decide)).val rfl
          have e7 : u 7 = .bool true := (hI 7 (by decide)).val rfl
          have e8 : u 8 = .agg #[.int .u64 (sw p 0 : Nat), .int .u64 (sw p 1 : Nat), .int .u64 (sw p 2 : Nat), .int .u64 (sw p 3 : Nat)] := (hI 8 (by decide)).val rfl
          have e9 : u 9 = .int .i64 ((byL p 256).length : Nat) := (hI 9 (by decide)).val rfl
          have e10 : u 10 = .slice a0 (byL p 256).length cap := (hI 10 (by decide)).val rfl
          have e11 : u 11 = .int .i64 ((byL p 256).length : Nat) := (hI 11 (by decide)).val rfl
          have e12 : u 12 = .bool true := (hI 12 (by decide)).val rfl
          have e13 : u 13 = .bool true := (hI 13 (by decide)).val rfl
          have e14 : u 14 = .bool true := (hI 14 (by decide)).val rfl
          have e15 : u 15 = .agg #[.int .u64 (sw p 0 : Nat), .int .u64 (sw p 1 : Nat), .int .u64 (sw p 2 : Nat), .int .u64 (sw p 3 : Nat)] := (hI 15 (by decide)).val rfl
          have e16 := (hI 16 (by decide)).prop rfl
          have e17 : u 17 = .slice a0 (byL p 256).length cap := (hI 17 (by decide)).val rfl
          have e18 : u 18 = .bool true := (hI 18 (by decide)).val rfl
          have e19 : u 19 = .bool true := (hI 19 (by decide)).val rfl
          have e20 : u 20 = .bool true := (hI 20 (by decide)).val rfl
          have e21 : u 21 = .bool true := (hI 21 (by decide)).val rfl
          have e22 : u 22 = .bool true := (hI 22 (by decide)).val rfl
          have e23 : u 23 = .bool true := (hI 23 (by decide)).val rfl
          clear hI
          simp only [Reg.putAll, Act.put, List.setIfInBounds_toArray, List.set_cons_succ, List.set_cons_zero, Nat.zero_add, Nat.reduceAdd, e0, e1, e2, e3, e4, e5, e6, e7, e8, e9, e10, e11, e12, e13, e14, e15, e17, e18, e19, e20, e21, e22, e23]
          clear e0 e1 e2 e3 e4 e5 e6 e7 e8 e9 e10 e11 e12 e13 e14 e15 e17 e18 e19 e20 e21 e22 e23
          clear e16
          have HB := Lib.hid hS.1.1
          clear hS
          go_wp2
          go_ret
          exact ⟨rfl, HB.out⟩
end Go.Proofs.YtllhpahbpeemaaaDoor
