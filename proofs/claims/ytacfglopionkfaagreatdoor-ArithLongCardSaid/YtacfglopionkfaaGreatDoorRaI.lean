/- The reference's reader of arithmetic, of any number of calls. -/
import Derived.Test.YtacfglopionkfaaGreatDoorRaH
namespace Go.Proofs.YtacfglopionkfaaGreatDoor
open Go.RowKit

theorem kd3_nm {l : List Int} {k : Nat} (h : 0 < nmN (l.drop (skipN l k))) : tok l k = ⟨3, skipN l k, skipN l k + nmN (l.drop (skipN l k)), ofBys ((l.drop (skipN l k)).take (nmN (l.drop (skipN l k)))), 0, false⟩ := by
  rcases tok_cases l k with ⟨e, _, _⟩ | ⟨_, _, e, _⟩ | ⟨e, _, _, _⟩ | ⟨e, _, _, _⟩ | ⟨e, _, _, _, _⟩
  · rw [e] at h; exact absurd h (by decide)
  · exact e
  · omega
  · omega
  · omega
theorem kd3_no {l : List Int} {k : Nat} (h : nmN (l.drop (skipN l k)) = 0) : ¬ (tok l k).kind = 3 := by
  rcases tok_cases l k with ⟨_, e, _⟩ | ⟨e, _, _, _⟩ | ⟨_, _, e, _⟩ | ⟨_, _, _, e⟩ | ⟨_, _, _, _, e⟩
  · rw [e]; show ¬ (0 : Int) = 3; decide
  · omega
  · rw [e]; show ¬ (2 : Int) = 3; decide
  · rw [e]; show ¬ (4 : Int) = 3; decide
  · rw [e]; show ¬ (1 : Int) = 3; decide
theorem sg_stop2 {l : List Int} (hb : Byt l) {k : Nat} (h : ¬ sgB l k = sEmpty) : (tok l k).text = sgB l k ∧ (tok l k).stop = skipN l k + (sgB l k).size ∧ (tok l k).start = skipN l k := by
  refine ⟨?_, sg_next l k h⟩
  rcases tx_cases hb k with e | ⟨e, _⟩
  · exact e
  · exact absurd e h
theorem ra_expr {l : List Int} {bv : Value} {rb n k : Nat} {res : Rs} {w : World} (ih : RaC l bv rb n) (hrd : rd l (n + 1) .expr (tok l k) = some res) (h : RaS l bv rb k 0 0 w) (hk : k ≤ l.length) :
    Calls Tryz.prog 41 #[.pointer (some ⟨rb, 0, none⟩)] w fun e w' => RaO l bv rb (n + 1) w.heap.size res e w' ∧ Ch rb w w' := by
  have hb := h.sl.1
  simp only [rd] at hrd
  rcases Nat.eq_zero_or_pos (nmN (l.drop (skipN l k))) with h0 | h0
  · rw [if_neg (fun hh => kd3_no h0 hh.1)] at hrd
    exact ra_expr_no ih hrd h0 h hk
  · have hn := kd3_nm h0
    have hs : (tok l k).stop = skipN l k + nmN (l.drop (skipN l k)) := by rw [hn]
    rw [hs, tx_asg hb] at hrd
    cases ha : asgB (sgB l (skipN l k + nmN (l.drop (skipN l k)))) with
    | false =>
      rw [ha, if_neg (fun hh => Bool.noConfusion hh.2)] at hrd
      exact ra_expr_nm ih hrd h0 ha h hk
    | true =>
      have hne : ¬ sgB l (skipN l k + nmN (l.drop (skipN l k))) = sEmpty := asgB_txt ha
      obtain ⟨t1, t2, t3⟩ := sg_stop2 hb hne
      rw [ha, if_pos ⟨by rw [hn], rfl⟩, t1, t2, t3] at hrd
      have htt : (tok l k).text = ofBys ((l.drop (skipN l k)).take (nmN (l.drop (skipN l k)))) := by rw [hn]
      have hts : (tok l k).start = skipN l k := tk_start l k
      rw [htt, hts] at hrd
      cases hx : rd l n .expr (tok l (skipN l (skipN l k + nmN (l.drop (skipN l k))) + (sgB l (skipN l k + nmN (l.drop (skipN l k)))).size)) with
      | none => rw [hx] at hrd; cases hrd
      | some r =>
        have hc := ra_expr_asg ih hx h0 ha h hk
        have he : res = r.map (.asg (sgB l (skipN l k + nmN (l.drop (skipN l k)))) (ofBys ((l.drop (skipN l k)).take (nmN (l.drop (skipN l k))))) (skipN l k) (skipN l (skipN l k + nmN (l.drop (skipN l k))))) := by
          rw [hx] at hrd
          cases r <;> exact (Option.some.inj hrd).symm
        rw [he]
        exact hc
theorem ra_cond {l : List Int} {bv : Value} {rb n k : Nat} {res : Rs} {w : World} (ih : RaC l bv rb n) (hrd : rd l (n + 1) .cond (tok l k) = some res) (h : RaS l bv rb k 0 0 w) (hk : k ≤ l.length) :
    Calls Tryz.prog 77 #[.pointer (some ⟨rb, 0, none⟩)] w fun e w' => RaO l bv rb (n + 1) w.heap.size res e w' ∧ Ch rb w w' := by
  simp only [rd] at hrd
  cases h1 : rd l n (.bin 1) (tok l k) with
  | none => rw [h1] at hrd; cases hrd
  | some r1 =>
    rw [h1] at hrd
    cases r1 with
    | bad c q =>
      obtain rfl : Rs.bad c q = res := Option.some.inj hrd
      exact ra_cond_bad ih h1 h hk
    | ok a t1 =>
      dsimp only at hrd
      by_cases hq : t1.text = sQue
      · rw [if_pos hq] at hrd
        cases h2 : rd l n .expr (tok l t1.stop) with
        | none => rw [h2] at hrd; cases hrd
        | some r2 =>
          rw [h2] at hrd
          cases r2 with
          | bad c q =>
            obtain rfl : Rs.bad c q = res := Option.some.inj hrd
            exact ra_cond_x ih h1 hq h2 h hk
          | ok y t2 =>
            dsimp only at hrd
            by_cases hc : t2.text = sCol
            · rw [if_pos hc] at hrd
              cases h3 : rd l n .cond (tok l t2.stop) with
              | none => rw [h3] at hrd; cases hrd
              | some r3 =>
                have hh := ra_cond_all ih h1 hq h2 hc h3 h hk
                have he : res = r3.map (.cond t1.text t1.start a y) := by
                  rw [h3] at hrd
                  cases r3 <;> exact (Option.some.inj hrd).symm
                rw [he]
                exact hh
            · rw [if_neg hc] at hrd
              obtain rfl : refuse t2 = res := Option.some.inj hrd
              exact ra_cond_c ih h1 hq h2 hc h hk
      · rw [if_neg hq] at hrd
        obtain rfl : Rs.ok a t1 = res := Option.some.inj hrd
        exact ra_cond_plain ih h1 hq h hk
theorem un_plus : unB ⟨#[43]⟩ = (⟨#[117]⟩ ++ ⟨#[43]⟩) := if_pos (Or.inl rfl)
theorem un_minus : unB ⟨#[45]⟩ = (⟨#[117]⟩ ++ ⟨#[45]⟩) := if_pos (Or.inr rfl)
theorem un_bang : unB ⟨#[33]⟩ = ⟨#[33]⟩ := by decide
theorem un_tilde : unB ⟨#[126]⟩ = ⟨#[126]⟩ := by decide
theorem ra_opd {l : List Int} {bv : Value} {rb n k : Nat} {res : Rs} {w : World} (ih : RaC l bv rb n) (hN : n ≤ 100000) (hrd : rd l (n + 1) .opd (tok l k) = some res) (h : RaS l bv rb k 0 0 w) (hk : k ≤ l.length) :
    Calls Tryz.prog 147 #[.pointer (some ⟨rb, 0, none⟩)] w fun e w' => RaO l bv rb (n + 1) w.heap.size res e w' ∧ Ch rb w w' := by
  have hb := h.sl.1
  simp only [rd] at hrd
  by_cases hse : sgB l k = sEmpty
  · have hno : ∀ x : ByteArray, x ∈ opList → ¬ sgB l k = x := fun x hx e => by rw [hse] at e; rw [← e] at hx; exact empty_no hx
    have n1 := hno ⟨#[43]⟩ (mem_ex (by decide))
    have n2 := hno ⟨#[45]⟩ (mem_ex (by decide))
    have n3 := hno ⟨#[33]⟩ (mem_ex (by decide))
    have n4 := hno ⟨#[126]⟩ (mem_ex (by decide))
    have n5 := hno ⟨#[40]⟩ (mem_ex (by decide))
    have hu : unB (tok l k).text = sEmpty := by rw [tx_un hb, hse]; decide
    have ho : ¬ (tok l k).text = sOpen := fun e => n5 ((tx_eq hb k open_op).1 e)
    rcases tok_cases l k with ⟨hd, e, _⟩ | ⟨hn, _, e, _⟩ | ⟨hn, hc, e, _⟩ | ⟨_, _, hs, _⟩ | ⟨hn, hc, _, _, e⟩
    · rw [if_neg (by rw [e]; show ¬ (0 : Int) = 2; decide), if_neg (by rw [e]; show ¬ (0 : Int) = 3; decide), if_neg (by rw [hu]; exact fun hh => hh rfl), if_neg ho] at hrd
      obtain rfl : refuse (tok l k) = res := Option.some.inj hrd
      exact ra_opd_k0 ih n1 n2 n3 n4 n5 (by rw [hd]; decide) (by rw [hd]; exact cN_zero fun x m e => by cases e) h hk
    · rw [if_neg (by rw [e]; show ¬ (3 : Int) = 2; decide), if_pos (by rw [e])] at hrd
      have hh := ra_opd_nm ih n1 n2 n3 n4 n5 hn h hk
      have he : res = .ok (.name (ofBys ((l.drop (skipN l k)).take (nmN (l.drop (skipN l k))))) (skipN l k)) (tok l (skipN l k + nmN (l.drop (skipN l k)))) := by
        rw [e] at hrd
        exact (Option.some.inj hrd).symm
      rw [he]
      exact hh
    · rw [if_pos (by rw [e])] at hrd
      cases hov : cO (l.drop (skipN l k)) with
      | true =>
        rw [if_pos (by rw [e]; exact hov)] at hrd
        obtain rfl : refuse (tok l k) = res := Option.some.inj hrd
        exact ra_opd_kv ih n1 n2 n3 n4 n5 hn hc hov h hk
      | false =>
        rw [if_neg (by rw [e]; show ¬ cO _ = true; rw [hov]; decide)] at hrd
        have hs : (tok l k).stop = skipN l k + cN (l.drop (skipN l k)) := by rw [e]
        rw [hs] at hrd
        cases hg : goesB l (skipN l k + cN (l.drop (skipN l k))) with
        | true =>
          rw [if_pos hg] at hrd
          obtain rfl := Option.some.inj hrd
          exact ra_opd_kg ih n1 n2 n3 n4 n5 hn hc hov hg h hk
        | false =>
          rw [if_neg (by rw [hg]; decide)] at hrd
          have he : res = .ok (.num (cV (l.drop (skipN l k))) (skipN l k)) (tok l (skipN l k + cN (l.drop (skipN l k)))) := by
            rw [e] at hrd
            exact (Option.some.inj hrd).symm
          rw [he]
          exact ra_opd_ok ih n1 n2 n3 n4 n5 hn hc hov hg h hk
    · exact absurd hse hs
    · rw [if_neg (by rw [e]; show ¬ (1 : Int) = 2; decide), if_neg (by rw [e]; show ¬ (1 : Int) = 3; decide), if_neg (by rw [hu]; exact fun hh => hh rfl), if_neg ho] at hrd
      obtain rfl : refuse (tok l k) = res := Option.some.inj hrd
      exact ra_opd_k0 ih n1 n2 n3 n4 n5 hn hc h hk
  · obtain ⟨t1, t2, t3⟩ := sg_stop2 hb hse
    have hk4 : (tok l k).kind = 4 ∧ nmN (l.drop (skipN l k)) = 0 ∧ cN (l.drop (skipN l k)) = 0 := by
      rcases tok_cases l k with ⟨_, _, s⟩ | ⟨_, _, _, s⟩ | ⟨_, _, _, s⟩ | ⟨h1, h2, _, e⟩ | ⟨_, _, s, _, _⟩
      · exact absurd s hse
      · exact absurd s hse
      · exact absurd s hse
      · rw [e]; exact ⟨rfl, h1, h2⟩
      · exact absurd s hse
    rw [if_neg (by rw [hk4.1]; decide), if_neg (by rw [hk4.1]; decide), t1, t2, t3] at hrd
    have HU : ∀ (s op : ByteArray), sgB l k = s → s.size = 1 → unB s = op → ¬ op = sEmpty → ∃ r, rd l n .opd (tok l (skipN l k + 1)) = some r ∧ res = r.map (.un op (skipN l k)) := fun s op hs h1 hu ho => by
      rw [hs, if_pos (by rw [hu]; exact ho), h1, hu] at hrd
      cases hx : rd l n .opd (tok l (skipN l k + 1)) with
      | none => rw [hx] at hrd; cases hrd
      | some r =>
        refine ⟨r, rfl, ?_⟩
        rw [hx] at hrd
        cases r <;> exact (Option.some.inj hrd).symm
    by_cases s1 : sgB l k = ⟨#[43]⟩
    · obtain ⟨r, hx, he⟩ := HU _ _ s1 rfl un_plus (by decide)
      rw [he]
      exact ra_opd_plus ih s1 hx h hk
    by_cases s2 : sgB l k = ⟨#[45]⟩
    · obtain ⟨r, hx, he⟩ := HU _ _ s2 rfl un_minus (by decide)
      rw [he]
      exact ra_opd_minus ih s2 hx h hk
    by_cases s3 : sgB l k = ⟨#[33]⟩
    · obtain ⟨r, hx, he⟩ := HU _ _ s3 rfl un_bang (by decide)
      rw [he]
      exact ra_opd_bang ih s3 hx h hk
    by_cases s4 : sgB l k = ⟨#[126]⟩
    · obtain ⟨r, hx, he⟩ := HU _ _ s4 rfl un_tilde (by decide)
      rw [he]
      exact ra_opd_tilde ih s4 hx h hk
    have hun : unB (sgB l k) = sEmpty := by
      unfold unB
      rw [if_neg (fun hh => hh.elim s1 s2), if_neg (fun hh => hh.elim s3 s4)]
    rw [if_neg (by rw [hun]; exact fun hh => hh rfl)] at hrd
    by_cases s5 : sgB l k = ⟨#[40]⟩
    · have hz : (sgB l k).size = 1 := by rw [s5]; rfl
      rw [if_pos (show sgB l k = sOpen from s5), hz] at hrd
      cases hx : rd l n .expr (tok l (skipN l k + 1)) with
      | none => rw [hx] at hrd; cases hrd
      | some r =>
        rw [hx] at hrd
        cases r with
        | bad c q =>
          obtain rfl : Rs.bad c q = res := Option.some.inj hrd
          exact ra_opd_px ih s5 hx hN h hk
        | ok e t1 =>
          dsimp only at hrd
          by_cases hc : t1.text = sShut
          · rw [if_pos hc] at hrd
            obtain rfl : Rs.ok e (tok l t1.stop) = res := Option.some.inj hrd
            exact ra_opd_po ih s5 hx hc h hk
          · rw [if_neg hc] at hrd
            obtain rfl : refuse t1 = res := Option.some.inj hrd
            exact ra_opd_pc ih s5 hx hc h hk
    · rw [if_neg (show ¬ sgB l k = sOpen from s5)] at hrd
      obtain rfl : refuse (tok l k) = res := Option.some.inj hrd
      exact ra_opd_k0 ih s1 s2 s3 s4 s5 hk4.2.1 hk4.2.2 h hk
/-- THE READER's METHODS, whatever the number of calls. -/
theorem ra_all (l : List Int) (bv : Value) (rb : Nat) : ∀ n, n ≤ 100000 → RaC l bv rb n := by
  intro n
  induction n using Nat.strongRecOn with
  | _ n IH =>
    intro hN
    cases n with
    | zero => exact ⟨fun _ _ _ h => by simp [rd] at h, fun _ _ _ h => by simp [rd] at h, fun _ _ _ _ h => by simp [rd] at h, fun _ _ _ h => by simp [rd] at h⟩
    | succ n =>
      have ih : ∀ m, m ≤ n → RaC l bv rb m := fun m hm => IH m (by omega) (by omega)
      exact ⟨fun k res w h hr hk => ra_expr (ih n (Nat.le_refl _)) h hr hk, fun k res w h hr hk => ra_cond (ih n (Nat.le_refl _)) h hr hk, fun least k res w h h1 h2 hr hk => ra_bin ih h h1 h2 hr hk, fun k res w h hr hk => ra_opd (ih n (Nat.le_refl _)) (by omega) h hr hk⟩
end Go.Proofs.YtacfglopionkfaaGreatDoor
