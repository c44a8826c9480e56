/- KLw: several texts in one (kmerge.py). -/
import Derived.Test.YthpmkpnndbjflaaGreatDoorKHm
/- Plain facts: texts put together of expressions in parentheses, and what reading tells of them. No program. -/
namespace Go.Proofs.YthpmkpnndbjflaaGreatDoor
open Go.RowKit

/-- A text that is an operand wherever it stands, of a tree of that make; it begins with a sign or a blank. -/
structure OpdX (X : List Int) (P : Tr → Prop) : Prop where
  hd : ∃ c m, X = c :: m ∧ (c = 40 ∨ c = 126 ∨ c = 33 ∨ c = 32 ∨ c = 45)
  at_ : ∀ L y r, L = y ++ (X ++ r) → (tok L y.length).kind = 4 ∧ ∃ e, P e ∧ RdOk L .opd (tok L y.length) e (tok L (y.length + X.length))
theorem OpdX.ends {X : List Int} {P : Tr → Prop} (h : OpdX X P) (r : List Int) : OpEnds (X ++ r) := by
  obtain ⟨c, m, rfl, hc⟩ := h.hd
  rcases hc with rfl | rfl | rfl | rfl | rfl <;> exact oe (by decide)
theorem opd_par {b : List Int} {n : Nat} {e : Tr} {t : Tk} (hb : parseP b n = some (.ok e t)) : OpdX (40 :: (b ++ [41])) (fun x => ∃ k, x = e.sh k) where
  hd := ⟨40, _, rfl, Or.inl rfl⟩
  at_ L y r hL := by
    obtain ⟨h1, h2⟩ := par_any hb (show L = y ++ (40 :: (b ++ (41 :: r))) by rw [hL]; simp)
    exact ⟨by rw [h1], e.sh (y.length + 1), ⟨_, rfl⟩, by rw [show y.length + (40 :: (b ++ [41])).length = y.length + (b.length + 2) by simp]; exact h2⟩
theorem opd_unX {X : List Int} {P : Tr → Prop} (h : OpdX X P) (c : Nat) (s : ByteArray) (hs : s ∈ opList) (hb : bys s = [(c : Int)]) (hu : ¬ unB s = sEmpty) (hc : (c : Int) = 126 ∨ (c : Int) = 33 ∨ (c : Int) = 45) : OpdX ((c : Int) :: X) (fun x => ∃ p e, x = .un (unB s) p e ∧ P e) where
  hd := ⟨_, _, rfl, by rcases hc with h | h | h <;> simp [h]⟩
  at_ L y r hL := by
    have hsz : s.size = 1 := by have := bys_length s; rw [hb] at this; simpa using this.symm
    have T := tok_sign (L := L) (y := y) (r := X ++ r) hs (by rw [hL, hb]; rfl) (h.ends r)
    rw [hsz] at T
    obtain ⟨_, e, he, hr⟩ := h.at_ L (y ++ [(c : Int)]) r (by rw [hL]; simp)
    have hl : (y ++ [(c : Int)]).length = y.length + 1 := by simp
    rw [hl] at hr
    refine ⟨by rw [T], .un (unB s) y.length e, ⟨y.length, e, rfl, he⟩, ?_⟩
    have := RdOk.unOf (L := L) (t := tok L y.length) (t2 := tok L (y.length + 1 + X.length)) (a := e) (by rw [T]) (by rw [T]; exact hu) (by rw [T]; exact hr)
    rw [T] at this ⊢
    rw [show y.length + ((c : Int) :: X).length = y.length + 1 + X.length by simp; omega]
    exact this
theorem opd_sp {X : List Int} {P : Tr → Prop} (h : OpdX X P) : OpdX (32 :: X) P where
  hd := ⟨32, _, rfl, by simp⟩
  at_ L y r hL := by
    have T := tok_sp (L := L) (y := y) (r := X ++ r) (by rw [hL]; simp)
    obtain ⟨hk, e, he, hr⟩ := h.at_ L (y ++ [32]) r (by rw [hL]; simp)
    have hl : (y ++ [32] : List Int).length = y.length + 1 := by simp
    rw [hl] at hk hr
    refine ⟨by rw [T]; exact hk, e, he, ?_⟩
    rw [T, show y.length + (32 :: X).length = y.length + 1 + X.length by simp; omega]
    exact hr
/-- Two operands with an operator between, ahead of what shuts. -/
theorem bin_at {X Y : List Int} {P Q : Tr → Prop} (hX : OpdX X P) (hY : OpdX Y Q) {s : ByteArray} (hs : s ∈ opList) (h1 : 1 ≤ strN s) {L y r : List Int} (hL : L = y ++ ((X ++ (bys s ++ Y)) ++ r))
    (hz : Shut (tok L (y.length + (X ++ (bys s ++ Y)).length)).text) : (tok L y.length).kind = 4 ∧ ∃ q ex ey, P ex ∧ Q ey ∧ RdOk L .expr (tok L y.length) (.bin s q ex ey) (tok L (y.length + (X ++ (bys s ++ Y)).length)) := by
  have hbl := bys_length s
  obtain ⟨hk, ex, hex, rx⟩ := hX.at_ L y (bys s ++ (Y ++ r)) (by rw [hL]; simp)
  have T := tok_sign (L := L) (y := y ++ X) (r := Y ++ r) hs (by rw [hL]; simp) (hY.ends r)
  obtain ⟨_, ey, hey, ry⟩ := hY.at_ L (y ++ X ++ bys s) r (by rw [hL]; simp)
  have l1 : (y ++ X).length = y.length + X.length := by simp
  have l2 : (y ++ X ++ bys s).length = y.length + X.length + s.size := by simp [hbl]; omega
  have l3 : y.length + (X ++ (bys s ++ Y)).length = y.length + X.length + s.size + Y.length := by simp [hbl]; omega
  rw [l1] at T
  rw [l2] at ry
  rw [l3] at hz ⊢
  refine ⟨hk, y.length + X.length, ex, ey, hex, hey, ?_⟩
  have h := RdOk.binOf (L := L) (t := tok L y.length) (t1 := tok L (y.length + X.length)) (t2 := tok L (y.length + X.length + s.size + Y.length)) rx (by rw [T]; exact h1) (by rw [T]; exact ry) hz.2.1
  rw [T] at h
  exact (h.cond0 hz.2.2).expr0 (fun hh => by rw [hk] at hh; exact absurd hh.1 (by decide))
theorem shut_end : Shut sEmpty := by unfold Shut; decide
theorem parse_bin {X Y : List Int} {P Q : Tr → Prop} (hX : OpdX X P) (hY : OpdX Y Q) {s : ByteArray} (hs : s ∈ opList) (h1 : 1 ≤ strN s) (hl : (X ++ (bys s ++ Y)).length ≤ 1024) : ∃ n q ex ey t, P ex ∧ Q ey ∧ parseP (X ++ (bys s ++ Y)) n = some (.ok (.bin s q ex ey) t) := by
  obtain ⟨L, hL⟩ : ∃ L, L = X ++ (bys s ++ Y) := ⟨_, rfl⟩
  have Te : tok L (([] : List Int).length + (X ++ (bys s ++ Y)).length) = ⟨0, L.length, L.length, sEmpty, 0, false⟩ := by
    rw [← hL, List.length_nil, Nat.zero_add]
    exact tok_last L
  obtain ⟨_, q, ex, ey, hex, hey, hr⟩ := bin_at (L := L) (y := []) (r := []) hX hY hs h1 (by rw [hL]; simp) (by rw [Te]; exact shut_end)
  rw [Te] at hr
  obtain ⟨n, hn⟩ := parse_of hr rfl (by rw [hL]; exact hl)
  exact ⟨n, q, ex, ey, _, hex, hey, by rw [← hL]; exact hn⟩
theorem opd_parbin {X Y : List Int} {P Q : Tr → Prop} (hX : OpdX X P) (hY : OpdX Y Q) {s : ByteArray} (hs : s ∈ opList) (h1 : 1 ≤ strN s) : OpdX (40 :: ((X ++ (bys s ++ Y)) ++ [41])) (fun x => ∃ q ex ey, x = .bin s q ex ey ∧ P ex ∧ Q ey) where
  hd := ⟨40, _, rfl, Or.inl rfl⟩
  at_ L y r hL := by
    have hL1 : L = (y ++ [40]) ++ ((X ++ (bys s ++ Y)) ++ (41 :: r)) := by rw [hL]; simp
    have l1 : (y ++ [40] : List Int).length = y.length + 1 := by simp
    have T0 : tok L y.length = ⟨4, y.length, y.length + 1, sOpen, 0, false⟩ := by
      rw [at_first (show L = y ++ (40 :: ((X ++ (bys s ++ Y)) ++ (41 :: r))) by rw [hL]; simp) (solid_of _ (by decide)), tokL_paren 40 (Or.inl rfl)]
      rfl
    have Ts := tok_shut (L := L) (y := (y ++ [40]) ++ (X ++ (bys s ++ Y))) (r := r) (by rw [hL1]; simp)
    have l2 : ((y ++ [40]) ++ (X ++ (bys s ++ Y)) : List Int).length = y.length + 1 + (X ++ (bys s ++ Y)).length := by rw [List.length_append, l1]
    rw [l2] at Ts
    obtain ⟨_, q, ex, ey, hex, hey, hr⟩ := bin_at (L := L) (y := y ++ [40]) (r := 41 :: r) hX hY hs h1 hL1 (by rw [l1, Ts]; exact shut_shut)
    rw [l1] at hr
    obtain ⟨_, h2⟩ := back_par (M := X ++ (bys s ++ Y)) (show L = y ++ (40 :: ((X ++ (bys s ++ Y)) ++ (41 :: r))) by rw [hL]; simp) hr
    refine ⟨by rw [T0], .bin s q ex ey, ⟨q, ex, ey, rfl, hex, hey⟩, ?_⟩
    rw [show y.length + (40 :: ((X ++ (bys s ++ Y)) ++ [41])).length = y.length + ((X ++ (bys s ++ Y)).length + 2) by simp; omega]
    exact h2
theorem parse_opd {X : List Int} {P : Tr → Prop} (hX : OpdX X P) (hl : X.length ≤ 1024) : ∃ n e t, P e ∧ parseP X n = some (.ok e t) := by
  obtain ⟨hk, e, he, hr⟩ := hX.at_ X [] [] (by simp)
  rw [List.length_nil, Nat.zero_add, tok_last X] at hr
  rw [List.length_nil] at hk
  obtain ⟨n, hn⟩ := parse_of (hr.all shut_end (fun h => by rw [hk] at h; exact absurd h (by decide))) rfl hl
  exact ⟨n, e, _, he, hn⟩
end Go.Proofs.YthpmkpnndbjflaaGreatDoor
/- Plain facts: what a tree without assignments is worth, wherever it stands; arithmetic is arithmetic. No program. -/
namespace Go.Proofs.YthpmkpnndbjflaaGreatDoor
open Go.RowKit

def Tr.NoAsg : Tr → Prop
  | .num _ _ => True
  | .name _ _ => True
  | .un _ _ a => a.NoAsg
  | .bin _ _ a b => a.NoAsg ∧ b.NoAsg
  | .cond _ _ a b c => a.NoAsg ∧ b.NoAsg ∧ c.NoAsg
  | .asg _ _ _ _ _ => False
/-- Without an assignment nothing is set. -/
theorem ev_env (NV : ByteArray → Int × Nat) : ∀ (t : Tr) (e e' : Asc) (v : Int), t.NoAsg → ev NV t e = .ok v e' → e' = e
  | .num n p, e, e', v, _, h => by simp only [ev, Rv.ok.injEq] at h; exact h.2.symm
  | .name s p, e, e', v, _, h => ldR_ok (show ldR NV s p e = _ from h)
  | .un op p a, e, e', v, hn, h => by
    obtain ⟨u, e1, h1, h2⟩ := Rv.then_ok (show (ev NV a e).then (fun v e1 => oneR op v e1) = _ from h)
    have i1 := ev_env NV a e e1 u hn h1
    subst i1
    exact oneR_ok h2
  | .bin op p a b, e, e', v, hn, h => by
    obtain ⟨u, e1, h1, h2⟩ := Rv.then_ok (show (ev NV a e).then _ = _ from h)
    have i1 := ev_env NV a e e1 u hn.1 h1
    subst i1
    by_cases c1 : op = sAnd2
    · rw [if_pos c1] at h2
      by_cases c : u = 0
      · rw [if_pos c] at h2; simp only [Rv.ok.injEq] at h2; exact h2.2.symm
      · rw [if_neg c] at h2
        obtain ⟨x, e2, j1, j2⟩ := Rv.then_ok h2
        have i2 := ev_env NV b e1 e2 x hn.2 j1
        subst i2
        exact oneR_ok j2
    · rw [if_neg c1] at h2
      by_cases c2 : op = sOr2
      · rw [if_pos c2] at h2
        by_cases c : u = 0
        · rw [if_pos c] at h2
          obtain ⟨x, e2, j1, j2⟩ := Rv.then_ok h2
          have i2 := ev_env NV b e1 e2 x hn.2 j1
          subst i2
          exact oneR_ok j2
        · rw [if_neg c] at h2; simp only [Rv.ok.injEq] at h2; exact h2.2.symm
      · rw [if_neg c2] at h2
        obtain ⟨x, e2, j1, j2⟩ := Rv.then_ok h2
        have i2 := ev_env NV b e1 e2 x hn.2 j1
        subst i2
        exact twoR_ok j2
  | .cond op p a b c, e, e', v, hn, h => by
    obtain ⟨u, e1, h1, h2⟩ := Rv.then_ok (show (ev NV a e).then _ = _ from h)
    have i1 := ev_env NV a e e1 u hn.1 h1
    subst i1
    by_cases c0 : u = 0
    · rw [if_pos c0] at h2; exact ev_env NV c e1 e' v hn.2.2 h2
    · rw [if_neg c0] at h2; exact ev_env NV b e1 e' v hn.2.1 h2
  | .asg _ _ _ _ _, _, _, _, hn, _ => hn.elim
/-- Is a tree worth v, whatever is said of faults' places? -/
def Wo (NV : ByteArray → Int × Nat) (t : Tr) (v : Int) : Prop := ev NV t [] = .ok v []
theorem ldR_sh {NV : ByteArray → Int × Nat} {s : ByteArray} {p q : Nat} {e e' : Asc} {v : Int} (h : ldR NV s p e = .ok v e') : ldR NV s q e = .ok v e' := by
  unfold ldR at h ⊢
  split at h
  · exact h
  · split at h
    · rename_i hh; rw [if_pos hh]; exact h
    · cases h
theorem twoR_sh {op : ByteArray} {p q : Nat} {l r v : Int} {e e' : Asc} (h : twoR op p l r e = .ok v e') : twoR op q l r e = .ok v e' := by
  unfold twoR at h ⊢
  split at h
  · cases h
  · rename_i hh
    rw [if_neg hh]
    exact h
theorem ev_sh (NV : ByteArray → Int × Nat) (k : Nat) : ∀ (t : Tr) (e e' : Asc) (v : Int), ev NV t e = .ok v e' → ev NV (t.sh k) e = .ok v e'
  | .num n p, e, e', v, h => h
  | .name s p, e, e', v, h => ldR_sh (show ldR NV s p e = _ from h)
  | .un op p a, e, e', v, h => by
    obtain ⟨u, e1, h1, h2⟩ := Rv.then_ok (show (ev NV a e).then (fun v e1 => oneR op v e1) = _ from h)
    show (ev NV (a.sh k) e).then _ = _
    rw [ev_sh NV k a e e1 u h1]
    exact h2
  | .bin op p a b, e, e', v, h => by
    obtain ⟨u, e1, h1, h2⟩ := Rv.then_ok (show (ev NV a e).then _ = _ from h)
    show (ev NV (a.sh k) e).then _ = _
    rw [ev_sh NV k a e e1 u h1]
    show (if op = sAnd2 then _ else _) = _
    by_cases c1 : op = sAnd2
    · rw [if_pos c1] at h2 ⊢
      by_cases c : u = 0
      · rw [if_pos c] at h2 ⊢; exact h2
      · rw [if_neg c] at h2 ⊢
        obtain ⟨x, e2, j1, j2⟩ := Rv.then_ok h2
        rw [ev_sh NV k b e1 e2 x j1]
        exact j2
    · rw [if_neg c1] at h2 ⊢
      by_cases c2 : op = sOr2
      · rw [if_pos c2] at h2 ⊢
        by_cases c : u = 0
        · rw [if_pos c] at h2 ⊢
          obtain ⟨x, e2, j1, j2⟩ := Rv.then_ok h2
          rw [ev_sh NV k b e1 e2 x j1]
          exact j2
        · rw [if_neg c] at h2 ⊢; exact h2
      · rw [if_neg c2] at h2 ⊢
        obtain ⟨x, e2, j1, j2⟩ := Rv.then_ok h2
        rw [ev_sh NV k b e1 e2 x j1]
        exact twoR_sh j2
  | .cond op p a b c, e, e', v, h => by
    obtain ⟨u, e1, h1, h2⟩ := Rv.then_ok (show (ev NV a e).then _ = _ from h)
    show (ev NV (a.sh k) e).then _ = _
    rw [ev_sh NV k a e e1 u h1]
    show (if u = 0 then _ else _) = _
    by_cases c0 : u = 0
    · rw [if_pos c0] at h2 ⊢; exact ev_sh NV k c e1 e' v h2
    · rw [if_neg c0] at h2 ⊢; exact ev_sh NV k b e1 e' v h2
  | .asg op s p q a, e, e', v, h => by
    by_cases h1 : trimE op = sEmpty
    · have he : ∀ (a : Tr) (p q : Nat), ev NV (.asg op s p q a) e = (ev NV a e).then fun v e1 => .ok v ((s, v) :: e1) := fun a p q => by simp only [ev]; rw [if_pos h1]
      rw [he] at h
      obtain ⟨u, e1, i1, i2⟩ := Rv.then_ok h
      show ev NV (.asg op s (k + p) (k + q) (a.sh k)) e = _
      rw [he, ev_sh NV k a e e1 u i1]
      exact i2
    · have he : ∀ (a : Tr) (p q : Nat), ev NV (.asg op s p q a) e = (ldR NV s p e).then fun v e1 => (ev NV a e1).then fun u e2 => (twoR (trimE op) q v u e2).then fun x e3 => .ok x ((s, x) :: e3) := fun a p q => by simp only [ev]; rw [if_neg h1]
      rw [he] at h
      obtain ⟨u, e1, i1, i2⟩ := Rv.then_ok h
      obtain ⟨x, e2, j1, j2⟩ := Rv.then_ok i2
      obtain ⟨y, e3, k1, k2⟩ := Rv.then_ok j2
      show ev NV (.asg op s (k + p) (k + q) (a.sh k)) e = _
      rw [he, ldR_sh i1]
      show (ev NV (a.sh k) e1).then _ = _
      rw [ev_sh NV k a e1 e2 x j1]
      show (twoR (trimE op) (k + q) u x e2).then _ = _
      rw [twoR_sh k1]
      exact k2
theorem Wo.sh {NV : ByteArray → Int × Nat} {t : Tr} {v : Int} (h : Wo NV t v) (k : Nat) : Wo NV (t.sh k) v := ev_sh NV k t [] [] v h
theorem Wo.un {NV : ByteArray → Int × Nat} {a : Tr} {v x : Int} (h : Wo NV a v) (op : ByteArray) (p : Nat) (hr : resO op 0 v = some x) : Wo NV (.un op p a) x := by
  show (ev NV a []).then _ = _
  rw [show ev NV a [] = .ok v [] from h]
  show oneR op v [] = _
  unfold oneR
  rw [hr]
theorem Wo.bin {NV : ByteArray → Int × Nat} {a b : Tr} {v u x : Int} (h : Wo NV a v) (k : Wo NV b u) (op : ByteArray) (p : Nat) (h1 : ¬ op = sAnd2) (h2 : ¬ op = sOr2) (h3 : ¬ (u = 0 ∧ (op = sDiv ∨ op = sMod))) (hr : resO op v u = some x) : Wo NV (.bin op p a b) x := by
  show (ev NV a []).then _ = _
  rw [show ev NV a [] = .ok v [] from h]
  show (if op = sAnd2 then _ else _) = _
  rw [if_neg h1, if_neg h2, show ev NV b [] = .ok u [] from k]
  show twoR op p v u [] = _
  unfold twoR
  rw [if_neg h3, hr]
theorem Wo.and {NV : ByteArray → Int × Nat} {a b : Tr} {v u : Int} (h : Wo NV a v) (k : Wo NV b u) (p : Nat) : Wo NV (.bin sAnd2 p a b) (if v = 0 then 0 else if u ≠ 0 then 1 else 0) := by
  show (ev NV a []).then _ = _
  rw [show ev NV a [] = .ok v [] from h]
  simp only [Rv.then]
  rw [if_pos trivial]
  by_cases c : v = 0
  · rw [if_pos c, if_pos c]
  · rw [if_neg c, if_neg c, show ev NV b [] = .ok u [] from k]
    show oneR sTruth u [] = _
    unfold oneR
    rw [show resO sTruth 0 u = some (if u ≠ 0 then 1 else 0) from by unfold resO sTruth; simp [sPlus, sMul]]
theorem Wo.or {NV : ByteArray → Int × Nat} {a b : Tr} {v u : Int} (h : Wo NV a v) (k : Wo NV b u) (p : Nat) : Wo NV (.bin sOr2 p a b) (if v = 0 then (if u ≠ 0 then 1 else 0) else 1) := by
  show (ev NV a []).then _ = _
  rw [show ev NV a [] = .ok v [] from h]
  simp only [Rv.then]
  rw [if_neg (by decide : ¬ sOr2 = sAnd2), if_pos trivial]
  by_cases c : v = 0
  · rw [if_pos c, if_pos c, show ev NV b [] = .ok u [] from k]
    show oneR sTruth u [] = _
    unfold oneR
    rw [show resO sTruth 0 u = some (if u ≠ 0 then 1 else 0) from by unfold resO sTruth; simp [sPlus, sMul]]
  · rw [if_neg c, if_neg c]

/-! numbers -/
theorem morgan (x y : Int) : bits .xor .i64 (-1) (bits .and .i64 x y) = bits .or .i64 (bits .xor .i64 (-1) x) (bits .xor .i64 (-1) y) := by
  have hw : ∀ b : BitVec 64, BitVec.ofInt 64 (IntKind.i64.wrap (b.toNat : Int)) = b := by
    intro b
    rw [IntKind.wrap_i64]
    apply BitVec.eq_of_toInt_eq
    rw [BitVec.toInt_ofInt, BitVec.toInt_eq_toNat_bmod]
    have := b.isLt
    simp only [Int.bmod_def]
    omega
  have hb : ∀ (op : BinOp) (a b : Int), BitVec.ofInt 64 (bits op .i64 a b) = (match op with | .and => BitVec.ofInt 64 a &&& BitVec.ofInt 64 b | .or => BitVec.ofInt 64 a ||| BitVec.ofInt 64 b | .xor => BitVec.ofInt 64 a ^^^ BitVec.ofInt 64 b | _ => BitVec.ofInt 64 a &&& ~~~BitVec.ofInt 64 b) := fun op a b => hw _
  show IntKind.i64.wrap ((BitVec.ofInt 64 (-1) ^^^ BitVec.ofInt 64 (bits .and .i64 x y)).toNat : Int) = IntKind.i64.wrap ((BitVec.ofInt 64 (bits .xor .i64 (-1) x) ||| BitVec.ofInt 64 (bits .xor .i64 (-1) y)).toNat : Int)
  rw [hb, hb, hb]
  congr 3
  have h1 : BitVec.ofInt 64 (-1) = BitVec.allOnes 64 := by decide
  rw [h1]
  simp only [BitVec.allOnes_xor]
  rw [BitVec.not_and]
theorem quo_rest {x y : Int} (hx : -9223372036854775808 ≤ x ∧ x ≤ 9223372036854775807) : wrap64 (wrap64 (wrap64 (x.tdiv y) * y) + x.tmod y) = x := by
  have h := Int.tdiv_mul_add_tmod x y
  have hm : ∀ a : Int, wrap64 a % 18446744073709551616 = a % 18446744073709551616 := fun a => by unfold wrap64; omega
  have h1 : (wrap64 (wrap64 (x.tdiv y) * y) + x.tmod y) % 18446744073709551616 = x % 18446744073709551616 := by
    rw [Int.add_emod, hm, Int.mul_emod, hm, ← Int.mul_emod, ← Int.add_emod, h]
  obtain ⟨z, hz⟩ : ∃ z, z = wrap64 (wrap64 (x.tdiv y) * y) + x.tmod y := ⟨_, rfl⟩
  rw [← hz] at h1 ⊢
  unfold wrap64
  omega
end Go.Proofs.YthpmkpnndbjflaaGreatDoor
/- Plain facts: a text in which nothing looks like an assignment is read without one. No program. -/
namespace Go.Proofs.YthpmkpnndbjflaaGreatDoor
open Go.RowKit

/-- At i stands what may be an assignment. -/
def SetI (l : List Int) (i : Nat) : Prop := l.getD i 0 = 61 ∧ (((i = 0 ∨ (¬ l.getD (i - 1) 0 = 61 ∧ ¬ l.getD (i - 1) 0 = 33 ∧ ¬ l.getD (i - 1) 0 = 60 ∧ ¬ l.getD (i - 1) 0 = 62)) ∧ (i + 1 = l.length ∨ ¬ l.getD (i + 1) 0 = 61)) ∨ (1 < i ∧ l.getD (i - 1) 0 = l.getD (i - 2) 0 ∧ (l.getD (i - 1) 0 = 60 ∨ l.getD (i - 1) 0 = 62)))

theorem opFrom_le (l : List Int) : ∀ L : List ByteArray, opFrom l L = sEmpty ∨ ∃ i, i < L.length ∧ L.getD i sEmpty = opFrom l L ∧ begins l (opFrom l L) = true ∧ ∀ j, j < i → begins l (L.getD j sEmpty) = false
  | [] => Or.inl rfl
  | s :: r => by
    by_cases h : begins l s = true
    · right
      refine ⟨0, by simp, ?_, ?_, fun j hj => by omega⟩
      · simp [opFrom, h]
      · simp only [opFrom, h, if_true]
    · have e : opFrom l (s :: r) = opFrom l r := by simp [opFrom, h]
      rw [e]
      rcases opFrom_le l r with h0 | ⟨i, h1, h2, h3, h4⟩
      · exact Or.inl h0
      · right
        refine ⟨i + 1, by simpa using h1, by simpa using h2, h3, fun j hj => ?_⟩
        cases j with
        | zero => simpa using h
        | succ j => simpa using h4 j (by omega)
theorem begins_byte {l : List Int} {s : ByteArray} (hb : Byt l) (h : begins l s = true) (j : Nat) (hj : j < s.size) : l.getD j 0 = ((s.data.toList.getD j 0).toNat : Int) := by
  rw [begins_iff] at h
  obtain ⟨h1, h2⟩ := h
  have hy := hb j
  have hjl : j < l.length := by omega
  have e1 : (s.data.toList.getD j 0) = UInt8.ofNat (l.getD j 0).toNat := by
    rw [← h2, List.getD_eq_getElem?_getD, List.getElem?_map, List.getElem?_take, if_pos hj, List.getElem?_eq_getElem hjl, List.getD_eq_getElem?_getD, List.getElem?_eq_getElem hjl]
    rfl
  rw [e1]
  simp only [UInt8.toNat_ofNat']
  omega
theorem asg_ops : ∀ s ∈ opList, asgB s = true → s = ⟨#[61]⟩ ∨ (s.size = 2 ∧ s.data.toList.getD 1 0 = 61 ∧ s.data.toList.getD 0 0 ∈ [43, 45, 42, 47, 37, 38, 94, 124]) ∨ s = ⟨#[60, 60, 61]⟩ ∨ s = ⟨#[62, 62, 61]⟩ := by decide
theorem eq_place : ∀ i : Fin 35, opList.getD i.val sEmpty = ⟨#[61]⟩ → 14 < i.val := by decide
theorem eq_eq : opList.getD 14 sEmpty = ⟨#[61, 61]⟩ := by decide
theorem ops_eq : ∀ s ∈ opList, s.data.toList.getD 0 0 = 61 → s = ⟨#[61]⟩ ∨ s = ⟨#[61, 61]⟩ := by decide
theorem nm_noasg {s : ByteArray} (h : NmOk s) : asgB s = false := by
  cases hq : asgB s with
  | false => rfl
  | true =>
    exfalso
    have hs : Lib.hasSuffix s.data.toList [61] = true := by
      unfold asgB at hq
      rw [Bool.and_eq_true] at hq
      exact hq.2
    unfold Lib.hasSuffix at hs
    rw [List.isSuffixOf_iff_suffix] at hs
    obtain ⟨p, hp⟩ := hs
    have hsz : s.size = p.length + 1 := by
      have : s.data.toList.length = s.size := by simp
      rw [← this, ← hp]
      simp
    have hb : (bys s).getD p.length 0 = 61 := by
      have := bys_map s
      rw [← hp] at this
      have hl : p.length < (bys s).length := by rw [bys_length]; omega
      have e := congrArg (fun t : List UInt8 => t[p.length]?) this
      simp only [List.getElem?_map, List.getElem?_append_right (Nat.le_refl _), Nat.sub_self, List.getElem?_cons_zero, List.getElem?_eq_getElem hl, Option.map_some, Option.some.injEq] at e
      have hy := bys_byt s p.length
      rw [List.getD_eq_getElem?_getD, List.getElem?_eq_getElem hl] at hy ⊢
      simp only [Option.getD_some] at hy ⊢
      have e2 := congrArg UInt8.toNat e
      simp only [UInt8.toNat_ofNat'] at e2
      have : (61 : UInt8).toNat = 61 := rfl
      omega
    have hn := (nmN_is (bys s)).2.1 p.length (by rw [h.2]; omega)
    unfold nameB at hn
    rw [hb] at hn
    simp [letB, numB] at hn
/-- What ends a name, or is white. -/
theorem before_op {l : List Int} {p0 k st : Nat} (h1 : p0 = st + k) (hk : 0 < k) (hn : ∀ j, j < k → nameB (l.drop st) j = true) {p : Nat} (hp : p = skipN l p0) : ¬ l.getD (p - 1) 0 = 61 ∧ ¬ l.getD (p - 1) 0 = 33 ∧ ¬ l.getD (p - 1) 0 = 60 ∧ ¬ l.getD (p - 1) 0 = 62 := by
  have hge : p0 ≤ p := by rw [hp]; exact skipN_ge l p0
  have hdr : ∀ (a j : Nat), (l.drop a).getD j 0 = l.getD (a + j) 0 := fun a j => by
    rw [List.getD_eq_getElem?_getD, List.getElem?_drop, ← List.getD_eq_getElem?_getD]
  by_cases he : p = p0
  · have h := hn (k - 1) (by omega)
    unfold nameB at h
    rw [hdr, show st + (k - 1) = p - 1 by omega] at h
    generalize l.getD (p - 1) 0 = c at *
    simp only [letB, numB, Bool.or_eq_true, Bool.and_eq_true, decide_eq_true_eq] at h
    omega
  · have h := pre_lt whiteB (l.drop p0) (p - 1 - p0) (by unfold skipN at hp; omega)
    rw [hdr, show p0 + (p - 1 - p0) = p - 1 by omega] at h
    generalize l.getD (p - 1) 0 = c at *
    simp only [whiteB, Bool.or_eq_true, beq_iff_eq] at h
    omega
theorem asg_sets {l : List Int} (hb : Byt l) {q : Nat} (hk : (tok l q).kind = 3) (ha : asgB (tok l (tok l q).stop).text = true)
    (hnext : ¬ ((tok l (tok l q).stop).stop < l.length ∧ l.getD (tok l (tok l q).stop).stop 0 = 61)) : ∃ i, i < l.length ∧ SetI l i := by
  have hdr : ∀ (a j : Nat), (l.drop a).getD j 0 = l.getD (a + j) 0 := fun a j => by
    rw [List.getD_eq_getElem?_getD, List.getElem?_drop, ← List.getD_eq_getElem?_getD]
  -- the name
  obtain ⟨st, hst⟩ : ∃ st, st = skipN l q := ⟨_, rfl⟩
  have ht : tok l q = tokL (l.drop st) st := by rw [hst]; rfl
  have hnm : 0 < nmN (l.drop st) ∧ (tok l q).stop = st + nmN (l.drop st) := by
    rw [ht] at hk ⊢
    unfold tokL at hk ⊢
    by_cases c0 : (l.drop st).length = 0
    · rw [if_pos c0] at hk; exact absurd hk (show ¬ (0 : Int) = 3 by decide)
    rw [if_neg c0] at hk ⊢
    by_cases c1 : 0 < nmN (l.drop st)
    · rw [if_pos c1]; exact ⟨c1, rfl⟩
    rw [if_neg c1] at hk
    by_cases c2 : 0 < cN (l.drop st)
    · rw [if_pos c2] at hk; exact absurd hk (show ¬ (2 : Int) = 3 by decide)
    rw [if_neg c2] at hk
    by_cases c3 : ¬ opB (l.drop st) = sEmpty
    · rw [if_pos c3] at hk; exact absurd hk (show ¬ (4 : Int) = 3 by decide)
    · rw [if_neg c3] at hk; exact absurd hk (show ¬ (1 : Int) = 3 by decide)
  obtain ⟨hk0, hp0⟩ := hnm
  obtain ⟨p0, hp0e⟩ : ∃ p0, p0 = (tok l q).stop := ⟨_, rfl⟩
  rw [← hp0e] at ha hnext hp0
  obtain ⟨p, hp⟩ : ∃ p, p = skipN l p0 := ⟨_, rfl⟩
  have hbe := before_op hp0 hk0 (fun j hj => (nmN_is (l.drop st)).2.1 j hj) hp
  have hpge : p0 ≤ p := by rw [hp]; exact skipN_ge l p0
  -- the operator
  have hts : tok l p0 = tokL (l.drop p) p := by rw [hp]; rfl
  have his := tok_is l hb p0
  have hk3 : ¬ (tok l p0).kind = 3 := fun h => by
    have := nm_noasg (his.nm h)
    rw [ha] at this
    cases this
  have hop : opB (l.drop p) = (tok l p0).text ∧ (tok l p0).stop = p + (opB (l.drop p)).size ∧ ¬ opB (l.drop p) = sEmpty := by
    have hne := asgB_txt ha
    rw [hts] at hk3 hne ⊢
    unfold tokL at hk3 hne ⊢
    by_cases c0 : (l.drop p).length = 0
    · rw [if_pos c0] at hne; exact absurd rfl hne
    rw [if_neg c0] at hk3 hne ⊢
    by_cases c1 : 0 < nmN (l.drop p)
    · rw [if_pos c1] at hk3; exact absurd rfl hk3
    rw [if_neg c1] at hne ⊢
    by_cases c2 : 0 < cN (l.drop p)
    · rw [if_pos c2] at hne; exact absurd rfl hne
    rw [if_neg c2] at hne ⊢
    by_cases c3 : ¬ opB (l.drop p) = sEmpty
    · rw [if_pos c3]; exact ⟨rfl, rfl, c3⟩
    · rw [if_neg c3] at hne; exact absurd rfl hne
  obtain ⟨ho1, ho2, ho3⟩ := hop
  rw [← ho1] at ha
  rw [ho2] at hnext
  rcases opFrom_le (l.drop p) opList with h0 | ⟨i, hi1, hi2, hi3, hi4⟩
  · exact absurd h0 ho3
  have hi3' : begins (l.drop p) (opB (l.drop p)) = true := hi3
  have hmem : opB (l.drop p) ∈ opList := by
    have : opList.getD i sEmpty ∈ opList := by
      rw [List.getD, List.getElem?_eq_getElem hi1]
      exact List.getElem_mem _
    rw [hi2] at this
    exact this
  have hbd : Byt (l.drop p) := fun j => by rw [hdr]; exact hb _
  have hlen : p + (opB (l.drop p)).size ≤ l.length := by
    have := ((begins_iff _ _).1 hi3').1
    rw [List.length_drop] at this
    have h2 : 0 < (opB (l.drop p)).size := (ops_head _ hmem).1
    omega
  have hby := fun j hj => begins_byte hbd hi3' j hj
  rcases asg_ops _ hmem ha with e | ⟨e1, e2, e3⟩ | e | e
  · -- =
    have hs1 : (opB (l.drop p)).size = 1 := by rw [e]; rfl
    have c0 := hby 0 (by omega)
    rw [e, hdr] at c0
    refine ⟨p, by omega, c0, Or.inl ⟨Or.inr hbe, ?_⟩⟩
    by_cases hl : p + 1 = l.length
    · exact Or.inl hl
    right
    intro h61
    have hpl := eq_place ⟨i, hi1⟩ (hi2.trans e)
    have hno := hi4 14 hpl
    rw [eq_eq] at hno
    have hyes : begins (l.drop p) ⟨#[61, 61]⟩ = true := by
      rw [begins_iff]
      have hll : 2 ≤ (l.drop p).length := by rw [List.length_drop]; omega
      refine ⟨hll, ?_⟩
      have d0 : (l.drop p)[0]? = some 61 := by
        have hx : 0 < (l.drop p).length := by omega
        have : (l.drop p).getD 0 0 = 61 := by rw [hdr]; exact c0
        rw [List.getD_eq_getElem?_getD, List.getElem?_eq_getElem hx] at this
        rw [List.getElem?_eq_getElem hx]
        exact congrArg some this
      have d1 : (l.drop p)[1]? = some 61 := by
        have hx : 1 < (l.drop p).length := by omega
        have : (l.drop p).getD 1 0 = 61 := by rw [hdr]; exact h61
        rw [List.getD_eq_getElem?_getD, List.getElem?_eq_getElem hx] at this
        rw [List.getElem?_eq_getElem hx]
        exact congrArg some this
      match hr : l.drop p, d0, d1 with
      | x :: y :: m, d0, d1 =>
        simp only [List.getElem?_cons_zero, List.getElem?_cons_succ, Option.some.injEq] at d0 d1
        subst d0
        subst d1
        rfl
    rw [hyes] at hno
    cases hno
  · -- c=
    have c0 := hby 0 (by omega)
    have c1 := hby 1 (by omega)
    rw [hdr] at c0 c1
    rw [e2] at c1
    rw [e1] at hnext hlen
    refine ⟨p + 1, by omega, c1, Or.inl ⟨Or.inr ?_, ?_⟩⟩
    · rw [show p + 1 - 1 = p + 0 by omega, c0]
      generalize (opB (l.drop p)).data.toList.getD 0 0 = c at e3
      simp only [List.mem_cons, List.not_mem_nil, or_false] at e3
      rcases e3 with rfl | rfl | rfl | rfl | rfl | rfl | rfl | rfl <;> decide
    · by_cases hl : p + 1 + 1 = l.length
      · exact Or.inl hl
      · exact Or.inr fun h => hnext ⟨by omega, h⟩
  · have c0 := hby 0 (by rw [e]; decide)
    have c1 := hby 1 (by rw [e]; decide)
    have c2 := hby 2 (by rw [e]; decide)
    rw [e, hdr] at c0 c1 c2
    have hs1 : (opB (l.drop p)).size = 3 := by rw [e]; rfl
    refine ⟨p + 2, by omega, c2, Or.inr ⟨by omega, ?_, Or.inl ?_⟩⟩
    · rw [show p + 2 - 1 = p + 1 by omega, show p + 2 - 2 = p + 0 by omega, c0, c1]; rfl
    · rw [show p + 2 - 1 = p + 1 by omega, c1]; rfl
  · have c0 := hby 0 (by rw [e]; decide)
    have c1 := hby 1 (by rw [e]; decide)
    have c2 := hby 2 (by rw [e]; decide)
    rw [e, hdr] at c0 c1 c2
    have hs1 : (opB (l.drop p)).size = 3 := by rw [e]; rfl
    refine ⟨p + 2, by omega, c2, Or.inr ⟨by omega, ?_, Or.inr ?_⟩⟩
    · rw [show p + 2 - 1 = p + 1 by omega, show p + 2 - 2 = p + 0 by omega, c0, c1]; rfl
    · rw [show p + 2 - 1 = p + 1 by omega, c1]; rfl
/-- Where a = stands nothing is read as an expression. -/
theorem rd_eq {l : List Int} {q : Nat} (hb : Byt l) (hq : q < l.length) (h61 : l.getD q 0 = 61) : ∀ n md, (md = .expr ∨ md = .cond ∨ (∃ k, md = .bin k) ∨ md = .opd) → ∀ e t', rd l n md (tok l q) ≠ some (.ok e t') := by
  have hdr : ∀ (a j : Nat), (l.drop a).getD j 0 = l.getD (a + j) 0 := fun a j => by
    rw [List.getD_eq_getElem?_getD, List.getElem?_drop, ← List.getD_eq_getElem?_getD]
  have hx : ∀ x m, l.drop q = x :: m → x = 61 := fun x m e => by
    have := hdr q 0
    rw [e, Nat.add_zero, h61] at this
    simpa using this
  have hsk : skipN l q = q := by
    unfold skipN
    have : pre whiteB (l.drop q) = 0 := by
      cases hc : l.drop q with
      | nil => rfl
      | cons x m => rw [hx x m hc]; simp [pre, whiteB]
    omega
  have ht : tok l q = tokL (l.drop q) q := by unfold tok; rw [hsk]
  have hn0 : nmN (l.drop q) = 0 := nmN_zero fun x m e => by rw [hx x m e]; rfl
  have hc0 : cN (l.drop q) = 0 := cN_zero fun x m e => by rw [hx x m e]; rfl
  have hl0 : ¬ (l.drop q).length = 0 := by rw [List.length_drop]; omega
  have hbd : Byt (l.drop q) := fun j => by rw [hdr]; exact hb _
  have hT : ¬ (tok l q).kind = 2 ∧ ¬ (tok l q).kind = 3 ∧ unB (tok l q).text = sEmpty ∧ ¬ (tok l q).text = sOpen := by
    rw [ht]
    unfold tokL
    rw [if_neg hl0, if_neg (by omega), if_neg (by omega)]
    by_cases c3 : ¬ opB (l.drop q) = sEmpty
    · rw [if_pos c3]
      rcases opFrom_le (l.drop q) opList with h0 | ⟨i, hi1, hi2, hi3, hi4⟩
      · exact absurd h0 c3
      have hmem : opB (l.drop q) ∈ opList := by
        have : opList.getD i sEmpty ∈ opList := by
          rw [List.getD, List.getElem?_eq_getElem hi1]
          exact List.getElem_mem _
        rw [hi2] at this
        exact this
      have h0 := begins_byte hbd (show begins (l.drop q) (opB (l.drop q)) = true from hi3) 0 (ops_head _ hmem).1
      rw [hdr, Nat.add_zero, h61] at h0
      have h1 : (opB (l.drop q)).data.toList.getD 0 0 = 61 := by
        apply UInt8.toNat_inj.1
        have : (61 : UInt8).toNat = 61 := rfl
        omega
      show ¬ (4 : Int) = 2 ∧ ¬ (4 : Int) = 3 ∧ unB (opB (l.drop q)) = sEmpty ∧ ¬ opB (l.drop q) = sOpen
      rcases ops_eq _ hmem h1 with e | e <;> rw [e] <;> decide
    · rw [if_neg c3]
      show ¬ (1 : Int) = 2 ∧ ¬ (1 : Int) = 3 ∧ unB sEmpty = sEmpty ∧ ¬ sEmpty = sOpen
      decide
  obtain ⟨k2, k3, ku, ko⟩ := hT
  intro n
  induction n with
  | zero => intro md _ e t' h; cases md <;> simp [rd] at h
  | succ n ih =>
    rintro md (rfl | rfl | ⟨k, rfl⟩ | rfl) e t' h
    · simp only [rd] at h
      rw [if_neg (fun c => k3 c.1)] at h
      exact ih .cond (Or.inr (Or.inl rfl)) e t' h
    · simp only [rd] at h
      cases hx : rd l n (.bin 1) (tok l q) with
      | none => rw [hx] at h; cases h
      | some r =>
        cases r with
        | ok a t1 => exact ih (.bin 1) (Or.inr (Or.inr (Or.inl ⟨1, rfl⟩))) a t1 hx
        | bad c p => rw [hx] at h; cases h
    · simp only [rd] at h
      cases hx : rd l n .opd (tok l q) with
      | none => rw [hx] at h; cases h
      | some r =>
        cases r with
        | ok a t1 => exact ih .opd (Or.inr (Or.inr (Or.inr rfl))) a t1 hx
        | bad c p => rw [hx] at h; cases h
    · simp only [rd] at h
      rw [if_neg k2, if_neg k3, if_neg (fun c => c ku), if_neg ko] at h
      simp [refuse] at h
def Md.NoAsg : Md → Prop
  | .loop _ a => a.NoAsg
  | _ => True
theorem rd_noasg {l : List Int} (hb : Byt l) (hno : ∀ i, i < l.length → ¬ SetI l i) : ∀ (n : Nat) (md : Md) (q : Nat), q ≤ l.length → md.NoAsg → ∀ e t', rd l n md (tok l q) = some (.ok e t') → e.NoAsg ∧ ∃ q', q' ≤ l.length ∧ t' = tok l q'
  | 0, md, q, _, _, e, t', h => by cases md <;> simp [rd] at h
  | n + 1, .expr, q, hq, _, e, t', h => by
    have hst := (tok_lies l q hq).2
    have hst2 := (tok_lies l _ hst).2
    simp only [rd] at h
    by_cases c : (tok l q).kind = 3 ∧ asgB (tok l (tok l q).stop).text = true
    · exfalso
      rw [if_pos c] at h
      cases hx : rd l n .expr (tok l (tok l (tok l q).stop).stop) with
      | none => rw [hx] at h; cases h
      | some r =>
        cases r with
        | bad c p => rw [hx] at h; cases h
        | ok a t1 =>
          obtain ⟨i, hi, hs⟩ := asg_sets hb c.1 c.2 (fun hh => rd_eq hb hh.1 hh.2 n .expr (Or.inl rfl) a t1 hx)
          exact hno i hi hs
    · rw [if_neg c] at h
      exact rd_noasg hb hno n .cond q hq trivial e t' h
  | n + 1, .cond, q, hq, _, e, t', h => by
    simp only [rd] at h
    cases hx : rd l n (.bin 1) (tok l q) with
    | none => rw [hx] at h; cases h
    | some r =>
      cases r with
      | bad c p => rw [hx] at h; cases h
      | ok a t1 =>
        obtain ⟨ha, q1, hq1, rfl⟩ := rd_noasg hb hno n (.bin 1) q hq trivial a t1 hx
        rw [hx] at h
        simp only [] at h
        by_cases c : (tok l q1).text = sQue
        · rw [if_pos c] at h
          have hs1 := (tok_lies l q1 hq1).2
          cases hy : rd l n .expr (tok l (tok l q1).stop) with
          | none => rw [hy] at h; cases h
          | some r =>
            cases r with
            | bad c p => rw [hy] at h; cases h
            | ok y t2 =>
              obtain ⟨hya, q2, hq2, rfl⟩ := rd_noasg hb hno n .expr _ hs1 trivial y t2 hy
              rw [hy] at h
              simp only [] at h
              by_cases d : (tok l q2).text = sCol
              · rw [if_pos d] at h
                have hs2 := (tok_lies l q2 hq2).2
                cases hz : rd l n .cond (tok l (tok l q2).stop) with
                | none => rw [hz] at h; cases h
                | some r =>
                  cases r with
                  | bad c p => rw [hz] at h; cases h
                  | ok z t3 =>
                    obtain ⟨hza, q3, hq3, rfl⟩ := rd_noasg hb hno n .cond _ hs2 trivial z t3 hz
                    rw [hz] at h
                    simp only [Option.some.injEq, Rs.ok.injEq] at h
                    obtain ⟨rfl, rfl⟩ := h
                    exact ⟨⟨ha, hya, hza⟩, q3, hq3, rfl⟩
              · rw [if_neg d] at h
                simp [refuse] at h
        · rw [if_neg c] at h
          simp only [Option.some.injEq, Rs.ok.injEq] at h
          obtain ⟨rfl, rfl⟩ := h
          exact ⟨ha, q1, hq1, rfl⟩
  | n + 1, .bin least, q, hq, _, e, t', h => by
    simp only [rd] at h
    cases hx : rd l n .opd (tok l q) with
    | none => rw [hx] at h; cases h
    | some r =>
      cases r with
      | bad c p => rw [hx] at h; cases h
      | ok a t1 =>
        obtain ⟨ha, q1, hq1, rfl⟩ := rd_noasg hb hno n .opd q hq trivial a t1 hx
        rw [hx] at h
        exact rd_noasg hb hno n (.loop least a) q1 hq1 ha e t' h
  | n + 1, .loop least left, q, hq, hl, e, t', h => by
    simp only [rd] at h
    by_cases c : least ≤ strN (tok l q).text
    · rw [if_pos c] at h
      have hs1 := (tok_lies l q hq).2
      cases hx : rd l n (.bin (strN (tok l q).text + 1)) (tok l (tok l q).stop) with
      | none => rw [hx] at h; cases h
      | some r =>
        cases r with
        | bad c p => rw [hx] at h; cases h
        | ok b t2 =>
          obtain ⟨hba, q2, hq2, rfl⟩ := rd_noasg hb hno n (.bin (strN (tok l q).text + 1)) _ hs1 trivial b t2 hx
          rw [hx] at h
          exact rd_noasg hb hno n (.loop least (.bin (tok l q).text (tok l q).start left b)) q2 hq2 ⟨hl, hba⟩ e t' h
    · rw [if_neg c] at h
      simp only [Option.some.injEq, Rs.ok.injEq] at h
      obtain ⟨rfl, rfl⟩ := h
      exact ⟨hl, q, hq, rfl⟩
  | n + 1, .opd, q, hq, _, e, t', h => by
    have hs1 := (tok_lies l q hq).2
    simp only [rd] at h
    by_cases c2 : (tok l q).kind = 2
    · rw [if_pos c2] at h
      by_cases d : (tok l q).over = true
      · rw [if_pos d] at h; simp [refuse] at h
      rw [if_neg d] at h
      by_cases d2 : goesB l (tok l q).stop = true
      · rw [if_pos d2] at h; cases h
      rw [if_neg d2] at h
      simp only [Option.some.injEq, Rs.ok.injEq] at h
      obtain ⟨rfl, rfl⟩ := h
      exact ⟨trivial, _, hs1, rfl⟩
    rw [if_neg c2] at h
    by_cases c3 : (tok l q).kind = 3
    · rw [if_pos c3] at h
      simp only [Option.some.injEq, Rs.ok.injEq] at h
      obtain ⟨rfl, rfl⟩ := h
      exact ⟨trivial, _, hs1, rfl⟩
    rw [if_neg c3] at h
    by_cases cu : ¬ unB (tok l q).text = sEmpty
    · rw [if_pos cu] at h
      cases hx : rd l n .opd (tok l (tok l q).stop) with
      | none => rw [hx] at h; cases h
      | some r =>
        cases r with
        | bad c p => rw [hx] at h; cases h
        | ok a t1 =>
          obtain ⟨ha, q1, hq1, rfl⟩ := rd_noasg hb hno n .opd _ hs1 trivial a t1 hx
          rw [hx] at h
          simp only [Option.some.injEq, Rs.ok.injEq] at h
          obtain ⟨rfl, rfl⟩ := h
          exact ⟨ha, q1, hq1, rfl⟩
    rw [if_neg cu] at h
    by_cases co : (tok l q).text = sOpen
    · rw [if_pos co] at h
      cases hx : rd l n .expr (tok l (tok l q).stop) with
      | none => rw [hx] at h; cases h
      | some r =>
        cases r with
        | bad c p => rw [hx] at h; cases h
        | ok a t1 =>
          obtain ⟨ha, q1, hq1, rfl⟩ := rd_noasg hb hno n .expr _ hs1 trivial a t1 hx
          rw [hx] at h
          simp only [] at h
          by_cases cs : (tok l q1).text = sShut
          · rw [if_pos cs] at h
            simp only [Option.some.injEq, Rs.ok.injEq] at h
            obtain ⟨rfl, rfl⟩ := h
            exact ⟨ha, _, (tok_lies l q1 hq1).2, rfl⟩
          · rw [if_neg cs] at h
            simp [refuse] at h
    · rw [if_neg co] at h
      simp [refuse] at h
/-- What is read of a text in which nothing looks like an assignment has none. -/
theorem parse_noasg {l : List Int} (hb : Byt l) (hno : ∀ i, i < l.length → ¬ SetI l i) {n : Nat} {e : Tr} {t : Tk} (h : parseP l n = some (.ok e t)) : e.NoAsg := by
  unfold parseP at h
  by_cases hl : 1024 < l.length
  · rw [if_pos hl] at h; simp at h
  rw [if_neg hl] at h
  unfold readP at h
  cases hx : rd l n .expr (tok l 0) with
  | none => rw [hx] at h; cases h
  | some r =>
    cases r with
    | bad c p => rw [hx] at h; cases h
    | ok a t1 =>
      rw [hx] at h
      simp only [] at h
      by_cases ck : t1.kind = 0
      · rw [if_pos ck] at h
        simp only [Option.some.injEq, Rs.ok.injEq] at h
        obtain ⟨rfl, rfl⟩ := h
        exact (rd_noasg hb hno n .expr 0 (Nat.zero_le _) trivial a t1 hx).1
      · rw [if_neg ck] at h
        simp [refuse] at h
end Go.Proofs.YthpmkpnndbjflaaGreatDoor
/- Plain facts: a tree that was read is worth something, or its fault is told; wherever it stands alike. No program. -/
namespace Go.Proofs.YthpmkpnndbjflaaGreatDoor
open Go.RowKit

def Rv.er : Rv → Rv
  | .ok v e => .ok v e
  | .bad c _ => .bad c 0
  | .no => .no
theorem then_er (r : Rv) (f : Int → Asc → Rv) : (r.then f).er = r.er.then fun v e => (f v e).er := by cases r <;> rfl
theorem then_cg {r r' : Rv} (h : r.er = r'.er) {f g : Int → Asc → Rv} (hf : ∀ v e, (f v e).er = (g v e).er) : (r.then f).er = (r'.then g).er := by
  rw [then_er, then_er, h]
  congr 1
  funext v e
  exact hf v e
theorem ldR_er (NV : ByteArray → Int × Nat) (s : ByteArray) (p q : Nat) (e : Asc) : (ldR NV s p e).er = (ldR NV s q e).er := by
  unfold ldR
  split
  · rfl
  · split <;> rfl
theorem twoR_er (op : ByteArray) (p q : Nat) (l r : Int) (e : Asc) : (twoR op p l r e).er = (twoR op q l r e).er := by
  unfold twoR
  split <;> rfl
theorem ev_er (NV : ByteArray → Int × Nat) (k : Nat) : ∀ (t : Tr) (e : Asc), (ev NV (t.sh k) e).er = (ev NV t e).er
  | .num n p, e => rfl
  | .name s p, e => ldR_er NV s _ _ e
  | .un op p a, e => then_cg (ev_er NV k a e) (fun _ _ => rfl)
  | .bin op p a b, e => by
    refine then_cg (ev_er NV k a e) (fun v e1 => ?_)
    have ib := ev_er NV k b e1
    by_cases c1 : op = sAnd2
    · simp only [if_pos c1]
      by_cases c : v = 0
      · simp only [if_pos c]
      · simp only [if_neg c]; exact then_cg ib (fun _ _ => rfl)
    · simp only [if_neg c1]
      by_cases c2 : op = sOr2
      · simp only [if_pos c2]
        by_cases c : v = 0
        · simp only [if_pos c]; exact then_cg ib (fun _ _ => rfl)
        · simp only [if_neg c]
      · simp only [if_neg c2]; exact then_cg ib (fun u e2 => twoR_er op _ _ v u e2)
  | .cond op p a b c, e => by
    refine then_cg (ev_er NV k a e) (fun v e1 => ?_)
    by_cases c0 : v = 0
    · simp only [if_pos c0]; exact ev_er NV k c e1
    · simp only [if_neg c0]; exact ev_er NV k b e1
  | .asg op s p q a, e => by
    by_cases h1 : trimE op = sEmpty
    · have he : ∀ (a : Tr) (p q : Nat), ev NV (.asg op s p q a) e = (ev NV a e).then fun v e1 => .ok v ((s, v) :: e1) := fun a p q => by simp only [ev]; rw [if_pos h1]
      show (ev NV (.asg op s (k + p) (k + q) (a.sh k)) e).er = _
      rw [he, he]
      exact then_cg (ev_er NV k a e) (fun _ _ => rfl)
    · have he : ∀ (a : Tr) (p q : Nat), ev NV (.asg op s p q a) e = (ldR NV s p e).then fun v e1 => (ev NV a e1).then fun u e2 => (twoR (trimE op) q v u e2).then fun x e3 => .ok x ((s, x) :: e3) := fun a p q => by simp only [ev]; rw [if_neg h1]
      show (ev NV (.asg op s (k + p) (k + q) (a.sh k)) e).er = _
      rw [he, he]
      exact then_cg (ldR_er NV s _ _ e) (fun v e1 => then_cg (ev_er NV k a e1) (fun u e2 => then_cg (twoR_er _ _ _ v u e2) (fun _ _ => rfl)))
theorem Tr.NoAsg.sh {k : Nat} : ∀ {t : Tr}, t.NoAsg → (t.sh k).NoAsg
  | .num _ _, h => h
  | .name _ _, h => h
  | .un _ _ a, h => Tr.NoAsg.sh (t := a) h
  | .bin _ _ a b, h => ⟨Tr.NoAsg.sh (t := a) h.1, Tr.NoAsg.sh (t := b) h.2⟩
  | .cond _ _ a b c, h => ⟨Tr.NoAsg.sh (t := a) h.1, Tr.NoAsg.sh (t := b) h.2.1, Tr.NoAsg.sh (t := c) h.2.2⟩
  | .asg _ _ _ _ _, h => h.elim
def binOps : List ByteArray := opRows.flatten
theorem str_row (s : ByteArray) : ∀ (L : List (List ByteArray)) (k : Nat), 1 ≤ rowFrom s L k → s ∈ L.flatten
  | [], k, h => by simp [rowFrom] at h
  | r :: rs, k, h => by
    simp only [rowFrom] at h
    by_cases c : r.any (fun x => decide (x = s)) = true
    · obtain ⟨x, hx, he⟩ := List.any_eq_true.1 c
      have := of_decide_eq_true he
      subst this
      simp [hx]
    · rw [if_neg c] at h
      have := str_row s rs (k + 1) h
      simp only [List.flatten_cons, List.mem_append]
      exact Or.inr this
theorem str_bin {s : ByteArray} (h : 1 ≤ strN s) : s ∈ binOps := str_row s opRows 0 h
theorem two_some {op : ByteArray} (h : op ∈ binOps) (h1 : ¬ op = sAnd2) (h2 : ¬ op = sOr2) (p : Nat) (l r : Int) (e : Asc) : twoR op p l r e ≠ .no := by
  unfold twoR
  by_cases c : r = 0 ∧ (op = sDiv ∨ op = sMod)
  · rw [if_pos c]; simp
  rw [if_neg c]
  have key : ∃ x, resO op l r = some x := by
    simp only [binOps, opRows, List.flatten_cons, List.flatten_nil, List.append_nil, List.cons_append, List.nil_append, List.mem_cons, List.not_mem_nil, or_false] at h
    rcases h with rfl | rfl | rfl | rfl | rfl | rfl | rfl | rfl | rfl | rfl | rfl | rfl | rfl | rfl | rfl | rfl | rfl | rfl
    · exact absurd rfl h2
    · exact absurd rfl h1
    all_goals first
      | exact ⟨_, rfl⟩
      | (have hr : ¬ r = 0 := fun e => c ⟨e, by first | exact Or.inl rfl | exact Or.inr rfl⟩
         refine Option.isSome_iff_exists.1 ?_
         unfold resO
         simp only [if_neg hr]
         rfl)
  obtain ⟨x, hx⟩ := key
  rw [hx]
  simp
theorem one_some {op : ByteArray} (h : op ∈ unL) (v : Int) (e : Asc) : oneR op v e ≠ .no := by
  unfold oneR
  have key : ∃ x, resO op 0 v = some x := by
    simp only [unL, List.mem_cons, List.not_mem_nil, or_false] at h
    rcases h with rfl | rfl | rfl | rfl <;> exact ⟨_, rfl⟩
  obtain ⟨x, hx⟩ := key
  rw [hx]
  simp
theorem truth_some (v : Int) (e : Asc) : oneR sTruth v e ≠ .no := by
  unfold oneR
  have key : ∃ x, resO sTruth 0 v = some x := ⟨_, rfl⟩
  obtain ⟨x, hx⟩ := key
  rw [hx]
  simp
theorem then_some {r : Rv} {f : Int → Asc → Rv} (h : r ≠ .no) (hf : ∀ v e, f v e ≠ .no) : r.then f ≠ .no := by
  cases r with
  | ok v e => exact hf v e
  | bad c p => simp [Rv.then]
  | no => exact absurd rfl h
theorem ev_some (NV : ByteArray → Int × Nat) : ∀ (t : Tr) (e : Asc), t.NoAsg → t.Ops → ev NV t e ≠ .no
  | .num n p, e, _, _ => by simp [ev]
  | .name s p, e, _, _ => by
    show ldR NV s p e ≠ .no
    unfold ldR
    split
    · simp
    · split <;> simp
  | .un op p a, e, hn, ho => then_some (ev_some NV a e hn ho.2) (fun v e1 => one_some ho.1 v e1)
  | .bin op p a b, e, hn, ho => by
    refine then_some (ev_some NV a e hn.1 ho.2.1) (fun v e1 => ?_)
    have ib := ev_some NV b e1 hn.2 ho.2.2
    by_cases c1 : op = sAnd2
    · simp only [if_pos c1]
      by_cases c : v = 0
      · simp [if_pos c]
      · simp only [if_neg c]; exact then_some ib (fun u e2 => truth_some u e2)
    · simp only [if_neg c1]
      by_cases c2 : op = sOr2
      · simp only [if_pos c2]
        by_cases c : v = 0
        · simp only [if_pos c]; exact then_some ib (fun u e2 => truth_some u e2)
        · simp [if_neg c]
      · simp only [if_neg c2]; exact then_some ib (fun u e2 => two_some (str_bin ho.1) c1 c2 _ v u e2)
  | .cond op p a b c, e, hn, ho => by
    refine then_some (ev_some NV a e hn.1 ho.2.1) (fun v e1 => ?_)
    by_cases c0 : v = 0
    · simp only [if_pos c0]; exact ev_some NV c e1 hn.2.2 ho.2.2.2
    · simp only [if_neg c0]; exact ev_some NV b e1 hn.2.1 ho.2.2.1
  | .asg _ _ _ _ _, _, hn, _ => hn.elim
/-- A tree without assignments, wherever it stands: it is worth the same, or its fault is told. -/
theorem ev_either (NV : ByteArray → Int × Nat) (t : Tr) (hn : t.NoAsg) (ho : t.Ops) : (∃ v, ∀ k, Wo NV (t.sh k) v) ∨ ∀ k, ∃ c p, ev NV (t.sh k) [] = .bad c p := by
  have h0 := ev_some NV t [] hn ho
  cases hr : ev NV t [] with
  | ok v e =>
    have := ev_env NV t [] e v hn hr
    subst this
    exact Or.inl ⟨v, fun k => Wo.sh hr k⟩
  | bad c p =>
    refine Or.inr fun k => ?_
    have h1 := ev_er NV k t []
    rw [hr] at h1
    cases h2 : ev NV (t.sh k) [] with
    | ok v e => rw [h2] at h1; cases h1
    | bad c' p' => exact ⟨_, _, rfl⟩
    | no => rw [h2] at h1; cases h1
  | no => exact absurd hr h0
end Go.Proofs.YthpmkpnndbjflaaGreatDoor
