/- Plain facts: reading never runs out of calls. No program. -/
import Derived.Test.YtlmoeldillpamaaDoorArDoor
namespace Go.Proofs.YtlmoeldillpamaaDoor

/-- A token as it is told. -/
structure Tk.Ok (l : List Int) (t : Tk) : Prop where
  run : t.kind = 2 ∨ t.kind = 3 ∨ t.kind = 4 → t.start < t.stop ∧ t.stop ≤ l.length
  txt : ¬ t.text = sEmpty → t.kind = 3 ∨ t.kind = 4

def mu (l : List Int) (t : Tk) : Nat := l.length - t.start

theorem size_pos {s : ByteArray} (h : ¬ s = sEmpty) : 0 < s.size := by
  rcases Nat.eq_zero_or_pos s.size with e | e
  · exact absurd (by obtain ⟨d⟩ := s; exact congrArg ByteArray.mk (Array.eq_empty_of_size_eq_zero e)) h
  · exact e

theorem tokL_start (r : List Int) (q : Nat) : (tokL r q).start = q := by unfold tokL; repeat' split
                                                                         all_goals rfl

theorem skipN_ge (l : List Int) (p : Nat) : p ≤ skipN l p := Nat.le_add_right _ _
theorem tok_start (l : List Int) (p : Nat) : p ≤ (tok l p).start := by unfold tok; rw [tokL_start]; exact skipN_ge l p

theorem tok_ok (l : List Int) (p : Nat) : (tok l p).Ok l := by
  unfold tok
  generalize skipN l p = q
  have hl : (l.drop q).length = l.length - q := List.length_drop
  generalize hr : l.drop q = r at hl ⊢
  by_cases h0 : r.length = 0
  · have e : tokL r q = ⟨0, q, q, sEmpty, 0, false⟩ := by unfold tokL; rw [if_pos h0]
    rw [e]
    exact ⟨by intro h; simp at h, by intro h; exact absurd rfl h⟩
  have h0 : 0 < r.length := by omega
  by_cases h1 : 0 < nmN r
  · rw [tk_nm h0 h1]
    have := nmN_le r
    exact ⟨fun _ => ⟨by show q < q + nmN r; omega, by show q + nmN r ≤ _; omega⟩, fun _ => Or.inl rfl⟩
  by_cases h2 : 0 < cN r
  · rw [tk_cn h0 h1 h2]
    have := cN_le r
    exact ⟨fun _ => ⟨by show q < q + cN r; omega, by show q + cN r ≤ _; omega⟩, fun h => absurd rfl h⟩
  by_cases h3 : opB r = sEmpty
  · rw [tk_no h0 h1 h2 h3]
    exact ⟨by intro h; simp at h, by intro h; exact absurd rfl h⟩
  · rw [tk_op h0 h1 h2 h3]
    have := opB_sz r
    have := size_pos h3
    exact ⟨fun _ => ⟨by show q < q + (opB r).size; omega, by show q + (opB r).size ≤ _; omega⟩, fun _ => Or.inr rfl⟩

theorem mu_lt {l : List Int} {t : Tk} (h : t.Ok l) (hk : t.kind = 2 ∨ t.kind = 3 ∨ t.kind = 4) : mu l (tok l t.stop) + 1 ≤ mu l t := by
  obtain ⟨a, b⟩ := h.run hk
  have := tok_start l t.stop
  unfold mu
  omega
theorem mu_txt {l : List Int} {t : Tk} (h : t.Ok l) (hk : ¬ t.text = sEmpty) : mu l (tok l t.stop) + 1 ≤ mu l t :=
  mu_lt h (Or.inr (h.txt hk))

theorem unB_txt {s : ByteArray} (h : ¬ unB s = sEmpty) : ¬ s = sEmpty := by rintro rfl; exact h (by decide)
theorem strN_txt {s : ByteArray} {k : Nat} (hk : 1 ≤ k) (h : k ≤ strN s) : ¬ s = sEmpty := by
  rintro rfl
  have : strN sEmpty = 0 := by decide
  omega
theorem asgB_txt {s : ByteArray} (h : asgB s = true) : ¬ s = sEmpty := by rintro rfl; exact absurd h (by decide)

def Md.Ok : Md → Prop
  | .bin k => 1 ≤ k
  | .loop k _ => 1 ≤ k
  | _ => True
def Md.need : Md → Nat
  | .expr => 4
  | .cond => 3
  | .bin _ => 2
  | .loop _ _ => 6
  | .opd => 1
def Md.eats : Md → Nat
  | .loop _ _ => 0
  | _ => 1

/-- An answer is told; what is left after a tree is shorter by k. -/
def Fine (l : List Int) (k : Nat) (t : Tk) (r : Option Rs) : Prop := ∃ x, r = some x ∧ ∀ e t', x = .ok e t' → t'.Ok l ∧ mu l t' + k ≤ mu l t
theorem Fine.bad {l : List Int} {k : Nat} {t : Tk} {c p : Nat} : Fine l k t (some (.bad c p)) := ⟨_, rfl, fun _ _ h => nomatch h⟩
theorem Fine.refuse {l : List Int} {k : Nat} {t u : Tk} : Fine l k t (some (refuse u)) := Fine.bad
theorem Fine.ok {l : List Int} {k : Nat} {t t' : Tk} {e : Tr} (h : t'.Ok l) (hm : mu l t' + k ≤ mu l t) : Fine l k t (some (.ok e t')) :=
  ⟨_, rfl, fun _ _ h' => by cases h'; exact ⟨h, hm⟩⟩
theorem Fine.mono {l : List Int} {k j : Nat} {t u : Tk} {r : Option Rs} (h : Fine l k t r) (hm : mu l t + j ≤ mu l u + k) : Fine l j u r := by
  obtain ⟨x, hx, hf⟩ := h
  refine ⟨x, hx, fun e t' he => ?_⟩
  obtain ⟨a, b⟩ := hf e t' he
  exact ⟨a, by omega⟩

theorem rd_fine (l : List Int) : ∀ (n : Nat) (md : Md) (t : Tk), t.Ok l → md.Ok → 5 * mu l t + md.need ≤ n → Fine l md.eats t (rd l n md t)
  | 0, md, t, _, _, h => by cases md <;> simp [Md.need] at h
  | n + 1, .expr, t, ht, _, h => by
    simp only [Md.need] at h
    simp only [rd, Md.eats]
    by_cases c : t.kind = 3 ∧ asgB (tok l t.stop).text = true
    · rw [if_pos c]
      have m1 := mu_lt ht (Or.inr (Or.inl c.1))
      have o1 := tok_ok l t.stop
      have m2 := mu_txt o1 (asgB_txt c.2)
      obtain ⟨x, hx, hf⟩ := rd_fine l n .expr (tok l (tok l t.stop).stop) (tok_ok _ _) trivial (by simp only [Md.need]; omega)
      rw [hx]
      cases x with
      | bad => exact Fine.bad
      | ok e t' =>
        obtain ⟨a, b⟩ := hf e t' rfl
        simp only [Md.eats] at b
        exact Fine.ok a (by omega)
    · rw [if_neg c]
      exact rd_fine l n .cond t ht trivial (by simp only [Md.need]; omega)
  | n + 1, .cond, t, ht, _, h => by
    simp only [Md.need] at h
    simp only [rd, Md.eats]
    obtain ⟨x, hx, hf⟩ := rd_fine l n (.bin 1) t ht (Nat.le_refl 1) (by simp only [Md.need]; omega)
    rw [hx]
    cases x with
    | bad => exact Fine.bad
    | ok a t1 =>
      obtain ⟨o1, m1⟩ := hf a t1 rfl
      simp only [Md.eats] at m1
      by_cases c : t1.text = sQue
      · simp only [if_pos c]
        have s1 := mu_txt o1 (by rw [c]; decide)
        obtain ⟨y, hy, hg⟩ := rd_fine l n .expr (tok l t1.stop) (tok_ok _ _) trivial (by simp only [Md.need]; omega)
        rw [hy]
        cases y with
        | bad => exact Fine.bad
        | ok y t2 =>
          obtain ⟨o2, m2⟩ := hg y t2 rfl
          simp only [Md.eats] at m2
          by_cases d : t2.text = sCol
          · simp only [if_pos d]
            have s2 := mu_txt o2 (by rw [d]; decide)
            obtain ⟨z, hz, hh⟩ := rd_fine l n .cond (tok l t2.stop) (tok_ok _ _) trivial (by simp only [Md.need]; omega)
            rw [hz]
            cases z with
            | bad => exact Fine.bad
            | ok z t3 =>
              obtain ⟨o3, m3⟩ := hh z t3 rfl
              simp only [Md.eats] at m3
              exact Fine.ok o3 (by omega)
          · simp only [if_neg d]
            exact Fine.refuse
      · simp only [if_neg c]
        exact Fine.ok o1 m1
  | n + 1, .bin k, t, ht, hk, h => by
    simp only [Md.need] at h
    simp only [rd, Md.eats]
    obtain ⟨x, hx, hf⟩ := rd_fine l n .opd t ht trivial (by simp only [Md.need]; omega)
    rw [hx]
    cases x with
    | bad => exact Fine.bad
    | ok a t1 =>
      obtain ⟨o1, m1⟩ := hf a t1 rfl
      simp only [Md.eats] at m1
      exact (rd_fine l n (.loop k a) t1 o1 hk (by simp only [Md.need]; omega)).mono (by simp only [Md.eats]; omega)
  | n + 1, .loop k left, t, ht, hk, h => by
    simp only [Md.need] at h
    simp only [rd, Md.eats]
    by_cases c : k ≤ strN t.text
    · rw [if_pos c]
      have s1 := mu_txt ht (strN_txt hk c)
      obtain ⟨x, hx, hf⟩ := rd_fine l n (.bin (strN t.text + 1)) (tok l t.stop) (tok_ok _ _) (Nat.le_add_left 1 _) (by simp only [Md.need]; omega)
      rw [hx]
      cases x with
      | bad => exact Fine.bad
      | ok b t2 =>
        obtain ⟨o2, m2⟩ := hf b t2 rfl
        simp only [Md.eats] at m2
        exact (rd_fine l n (.loop k (.bin t.text t.start left b)) t2 o2 hk (by simp only [Md.need]; omega)).mono (by simp only [Md.eats]; omega)
    · rw [if_neg c]
      exact Fine.ok ht (by omega)
  | n + 1, .opd, t, ht, _, h => by
    simp only [Md.need] at h
    simp only [rd, Md.eats]
    by_cases c2 : t.kind = 2
    · rw [if_pos c2]
      have s1 := mu_lt ht (Or.inl c2)
      by_cases co : t.over = true
      · rw [if_pos co]; exact Fine.refuse
      · rw [if_neg co]
        by_cases cg : goesB l t.stop = true
        · rw [if_pos cg]; exact Fine.bad
        · rw [if_neg cg]; exact Fine.ok (tok_ok _ _) s1
    rw [if_neg c2]
    by_cases c3 : t.kind = 3
    · rw [if_pos c3]
      exact Fine.ok (tok_ok _ _) (mu_lt ht (Or.inr (Or.inl c3)))
    rw [if_neg c3]
    by_cases cu : ¬ unB t.text = sEmpty
    · rw [if_pos cu]
      have s1 := mu_txt ht (unB_txt cu)
      obtain ⟨x, hx, hf⟩ := rd_fine l n .opd (tok l t.stop) (tok_ok _ _) trivial (by simp only [Md.need]; omega)
      rw [hx]
      cases x with
      | bad => exact Fine.bad
      | ok a t1 =>
        obtain ⟨o1, m1⟩ := hf a t1 rfl
        simp only [Md.eats] at m1
        exact Fine.ok o1 (by omega)
    rw [if_neg cu]
    by_cases cp : t.text = sOpen
    · rw [if_pos cp]
      have s1 := mu_txt ht (by rw [cp]; decide)
      obtain ⟨x, hx, hf⟩ := rd_fine l n .expr (tok l t.stop) (tok_ok _ _) trivial (by simp only [Md.need]; omega)
      rw [hx]
      cases x with
      | bad => exact Fine.bad
      | ok e t1 =>
        obtain ⟨o1, m1⟩ := hf e t1 rfl
        simp only [Md.eats] at m1
        by_cases cs : t1.text = sShut
        · simp only [if_pos cs]
          have s2 := mu_txt o1 (by rw [cs]; decide)
          exact Fine.ok (tok_ok _ _) (by omega)
        · simp only [if_neg cs]
          exact Fine.refuse
    · rw [if_neg cp]
      exact Fine.refuse

/-- Reading always tells. -/
theorem readP_some (l : List Int) (n : Nat) (h : 5 * l.length + 4 ≤ n) : ∃ r, readP l n = some r := by
  have hm : mu l (tok l 0) ≤ l.length := Nat.sub_le _ _
  obtain ⟨x, hx, -⟩ := rd_fine l n .expr (tok l 0) (tok_ok l 0) trivial (by simp only [Md.need]; omega)
  unfold readP
  rw [hx]
  cases x with
  | bad c p => exact ⟨_, rfl⟩
  | ok e t =>
    by_cases c : t.kind = 0
    · exact ⟨_, if_pos c⟩
    · exact ⟨_, if_neg c⟩
theorem parseP_some (l : List Int) : ∃ r, parseP l (5 * l.length + 4) = some r := by
  unfold parseP
  by_cases c : 1024 < l.length
  · exact ⟨_, if_pos c⟩
  · rw [if_neg c]; exact readP_some l _ (Nat.le_refl _)

end Go.Proofs.YtlmoeldillpamaaDoor
