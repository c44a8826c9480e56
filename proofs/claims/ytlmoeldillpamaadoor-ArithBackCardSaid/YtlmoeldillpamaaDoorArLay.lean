/- Trees whose kids lie in rows that may hold more; the append of one more kid. -/
import Derived.Test.YtlmoeldillpamaaDoorArText
import Derived.Laws.AppendOwn
namespace Go.Proofs.YtlmoeldillpamaaDoor
open Go.RowKit

/-- A row of trees' cells in memory, in a block of S. -/
def RowOf (w : World) (S : Nat → Prop) (kv : Value) (n : Nat) (xs : List Value) : Prop :=
  ∃ g cap cur, kv = .slice (some ⟨g, 0, none⟩) n cap ∧ S g ∧ n ≤ cap ∧ cap ≤ maxLen ∧ w.heap[g]? = some (.cells cur 36 (0, 0)) ∧ cur.toList.take (n * 6) = xs
theorem RowOf.kept {w w' : World} {S : Nat → Prop} {kv : Value} {n : Nat} {xs : List Value} (h : RowOf w S kv n xs) (hk : ∀ k, S k → k < w.heap.size → w'.heap[k]? = w.heap[k]?) : RowOf w' S kv n xs := by
  obtain ⟨g, cap, cur, e, hS, h1, h2, hg, ht⟩ := h
  exact ⟨g, cap, cur, e, hS, h1, h2, (hk g hS (lt_of_heap hg)).trans hg, ht⟩
theorem RowOf.mono {w : World} {S S' : Nat → Prop} {kv : Value} {n : Nat} {xs : List Value} (h : RowOf w S kv n xs) (hk : ∀ k, S k → k < w.heap.size → S' k) : RowOf w S' kv n xs := by
  obtain ⟨g, cap, cur, e, hS, h1, h2, hg, ht⟩ := h
  exact ⟨g, cap, cur, e, hk g hS (lt_of_heap hg), h1, h2, hg, ht⟩
/-- Its cells, one by one. -/
theorem RowOf.cell {w : World} {S : Nat → Prop} {g n cap : Nat} {xs : List Value} (h : RowOf w S (.slice (some ⟨g, 0, none⟩) n cap) n xs) {j : Nat} {u : Value} (hu : xs[j]? = some u) : w.cell? ⟨g, j, none⟩ = some u := by
  obtain ⟨g', cap', cur, e, hS, h1, h2, hg, ht⟩ := h
  simp only [Value.slice.injEq, Option.some.injEq, Addr.mk.injEq, and_true, true_and] at e
  obtain ⟨rfl, rfl⟩ := e
  rw [← ht] at hu
  have hj : j < n * 6 := by
    have := (List.getElem?_eq_some_iff.1 hu).1
    rw [List.length_take] at this
    omega
  rw [List.getElem?_take, if_pos hj] at hu
  simp only [World.cell?, hg]
  rw [← Array.getElem?_toList]
  simpa using hu

/-- The tree lies in memory, in blocks of S; a row may hold more than is used. -/
def Tr.Lay (w : World) (S : Nat → Prop) : Tr → Value → Prop
  | .num _ _, kv => kv = .slice none 0 0
  | .name _ _, kv => kv = .slice none 0 0
  | .un _ _ a, kv => ∃ ka, RowOf w S kv 1 (a.cells ka) ∧ a.Lay w S ka
  | .bin _ _ a b, kv => ∃ ka kb, RowOf w S kv 2 (a.cells ka ++ b.cells kb) ∧ a.Lay w S ka ∧ b.Lay w S kb
  | .cond _ _ a b c, kv => ∃ ka kb kc, RowOf w S kv 3 (a.cells ka ++ b.cells kb ++ c.cells kc) ∧ a.Lay w S ka ∧ b.Lay w S kb ∧ c.Lay w S kc
  | .asg _ _ _ _ a, kv => ∃ ka, RowOf w S kv 1 (a.cells ka) ∧ a.Lay w S ka
theorem Tr.Lay.kept {w w' : World} {S : Nat → Prop} (hk : ∀ k, S k → k < w.heap.size → w'.heap[k]? = w.heap[k]?) : ∀ (t : Tr) (kv : Value), t.Lay w S kv → t.Lay w' S kv
  | .num _ _, _, h => h
  | .name _ _, _, h => h
  | .un _ _ a, _, ⟨ka, hr, ha⟩ => ⟨ka, hr.kept hk, ha.kept hk a ka⟩
  | .bin _ _ a b, _, ⟨ka, kb, hr, ha, hb⟩ => ⟨ka, kb, hr.kept hk, ha.kept hk a ka, hb.kept hk b kb⟩
  | .cond _ _ a b c, _, ⟨ka, kb, kc, hr, ha, hb, hc⟩ => ⟨ka, kb, kc, hr.kept hk, ha.kept hk a ka, hb.kept hk b kb, hc.kept hk c kc⟩
  | .asg _ _ _ _ a, _, ⟨ka, hr, ha⟩ => ⟨ka, hr.kept hk, ha.kept hk a ka⟩
theorem Tr.Lay.mono {w : World} {S S' : Nat → Prop} (hk : ∀ k, S k → k < w.heap.size → S' k) : ∀ (t : Tr) (kv : Value), t.Lay w S kv → t.Lay w S' kv
  | .num _ _, _, h => h
  | .name _ _, _, h => h
  | .un _ _ a, _, ⟨ka, hr, ha⟩ => ⟨ka, hr.mono hk, Tr.Lay.mono hk a ka ha⟩
  | .bin _ _ a b, _, ⟨ka, kb, hr, ha, hb⟩ => ⟨ka, kb, hr.mono hk, Tr.Lay.mono hk a ka ha, Tr.Lay.mono hk b kb hb⟩
  | .cond _ _ a b c, _, ⟨ka, kb, kc, hr, ha, hb, hc⟩ => ⟨ka, kb, kc, hr.mono hk, Tr.Lay.mono hk a ka ha, Tr.Lay.mono hk b kb hb, Tr.Lay.mono hk c kc hc⟩
  | .asg _ _ _ _ a, _, ⟨ka, hr, ha⟩ => ⟨ka, hr.mono hk, Tr.Lay.mono hk a ka ha⟩
theorem Tr.Lay.shape {w : World} {S : Nat → Prop} {t : Tr} {kv : Value} (h : t.Lay w S kv) : ∃ o n c, kv = .slice o n c := by
  cases t with
  | num n p => exact ⟨_, _, _, h⟩
  | name s p => exact ⟨_, _, _, h⟩
  | un op p a => obtain ⟨ka, ⟨g, cap, cur, e, _⟩, _⟩ := h; exact ⟨_, _, _, e⟩
  | bin op p a b => obtain ⟨ka, kb, ⟨g, cap, cur, e, _⟩, _⟩ := h; exact ⟨_, _, _, e⟩
  | cond op p a b c => obtain ⟨ka, kb, kc, ⟨g, cap, cur, e, _⟩, _⟩ := h; exact ⟨_, _, _, e⟩
  | asg op s p q a => obtain ⟨ka, ⟨g, cap, cur, e, _⟩, _⟩ := h; exact ⟨_, _, _, e⟩
theorem Tr.cells_len (t : Tr) (kv : Value) : (t.cells kv).length = 6 := rfl
theorem Tr.In.lay {w : World} {lo : Nat} : ∀ (t : Tr) (kv : Value), t.In w lo kv → t.Lay w (fun k => lo ≤ k) kv
  | .num _ _, _, h => h
  | .name _ _, _, h => h
  | .un _ _ a, _, ⟨k, ka, e, hl, hk, ha⟩ => ⟨ka, ⟨k, 1, _, e, hl, Nat.le_refl _, by decide, hk, by rw [List.take_of_length_le (by simp [Tr.cells_len])]⟩, ha.lay a ka⟩
  | .bin _ _ a b, _, ⟨k, ka, kb, e, hl, hk, ha, hb⟩ => ⟨ka, kb, ⟨k, 2, _, e, hl, Nat.le_refl _, by decide, hk, by rw [List.take_of_length_le (by simp [Tr.cells_len])]⟩, ha.lay a ka, hb.lay b kb⟩
  | .cond _ _ a b c, _, ⟨k, ka, kb, kc, e, hl, hk, ha, hb, hc⟩ => ⟨ka, kb, kc, ⟨k, 3, _, e, hl, Nat.le_refl _, by decide, hk, by rw [List.take_of_length_le (by simp [Tr.cells_len])]⟩, ha.lay a ka, hb.lay b kb, hc.lay c kc⟩
  | .asg _ _ _ _ a, _, ⟨k, ka, e, hl, hk, ha⟩ => ⟨ka, ⟨k, 1, _, e, hl, Nat.le_refl _, by decide, hk, by rw [List.take_of_length_le (by simp [Tr.cells_len])]⟩, ha.lay a ka⟩

/-- An append to the call's own row: where the row lies then. -/
theorem run_append_own2 {P : Program} (w : World) (base : Nat) (t ty e : TypeId) (i : TypeInfo) (z : Value) (size bytes : Nat) (ht : P.underlying t = some (.slice e)) (hi : P.info? e = some i) (hz : i.zero = some z)
    (hsize : i.size = size) (hby : i.bytes = bytes) (hzs : z.cells.size = size) (hsz : 0 < size)
    (v : Value) (n : Nat) (xs : List Value) (hown : w.ownsRow base e size v n xs)
    (a : Addr) (m c : Nat) (news : List Value) (hl : news.length = m * size) (hnews : ∀ j u, news[j]? = some u → w.cell? (a.add j) = some u) (h1 : ∀ u ∈ news, u.oneCell' = true) (hm : 0 < m)
    (h63 : n + m ≤ maxLen) (hbytes : (n + m) * bytes ≤ 140737488355328) (hbase : base ≤ w.heap.size) :
    ∃ v' w', (Builtin.append_ #[t, t] ty #[v, .slice (some a) m c]).run P w = .ok v' w' ∧ w'.ownsRow base e size v' (n + m) (xs ++ news) ∧ w.grownBy w' v.ownBlock ∧ (v'.ownBlock = v.ownBlock ∨ v'.ownBlock = some w.heap.size) := by
  obtain ⟨v1, w1, hr1, ho1, hg1, _⟩ := run_append_own (P := P) w base t ty e i z size bytes ht hi hz hsize hby hzs hsz v n xs hown a m c news hl hnews h1 h63 hbytes hbase
  refine ⟨v1, w1, hr1, ho1, hg1, ?_⟩
  have hsmall : n + m ≤ 9223372036854775807 := by simp only [maxLen] at h63; omega
  subst hsize
  subst hby
  rcases hown.2 with ⟨rfl, rfl⟩ | ⟨g, cap, cur, rfl, hbg, hg, hnc, hcm, hcs, htake⟩
  · have hr := run_append_nil (P := P) w t ty e i z ht hi hz a m c news hl hnews hm (by omega) (by have hb := hbytes; simp only [Nat.zero_add] at hb; omega)
    rw [hr1] at hr
    injection hr with hv hw
    right
    rw [hv]
    rfl
  · by_cases hroom : n + m ≤ cap
    · have hfit : n * i.size + news.length ≤ cur.size := by rw [hl, hcs, ← Nat.add_mul]; exact Nat.mul_le_mul_right _ hroom
      have hr := run_append_room (P := P) w t ty e i ht hi g n cap cur hg a m c news hl hnews h1 hroom hfit
      rw [hr1] at hr
      injection hr with hv hw
      left
      rw [hv]
      rfl
    · have holds : ∀ j u, xs[j]? = some u → w.cell? ((⟨g, 0, none⟩ : Addr).add j) = some u := hown.cells (g := g) rfl
      have hr := run_append_grow (P := P) w t ty e i z ht hi hz ⟨g, 0, none⟩ n cap xs hown.1 holds a m c news hl hnews (by omega) (by omega) (growslice_fits (by omega) hbytes)
      rw [hr1] at hr
      injection hr with hv hw
      right
      rw [hv]
      rfl
theorem step_append_own2 {P : Program} {ops : Array Oper} {o : Oper} {a : Act} {w : World} {K : Act → World → Prop} {Q : Exit → Act → World → Prop} {E : Prop} (hgd : o.guard = none) (s x : Operand) (t : TypeId)
    (ho : o.op = .call { callee := .builtin .append, args := #[s, x], argTypes := #[t, t] })
    (base : Nat) (e : TypeId) (i : TypeInfo) (z : Value) (size bytes : Nat) (ht : P.underlying t = some (.slice e)) (hi : P.info? e = some i) (hz : i.zero = some z)
    (hsize : i.size = size) (hby : i.bytes = bytes) (hzs : z.cells.size = size) (hsz : 0 < size)
    (v : Value) (n : Nat) (xs : List Value) (hs : a.eval s = v) (hown : w.ownsRow base e size v n xs)
    (ad : Addr) (m c : Nat) (news : List Value) (hx : a.eval x = .slice (some ad) m c) (hl : news.length = m * size) (hnews : ∀ j u, news[j]? = some u → w.cell? (ad.add j) = some u) (h1 : ∀ u ∈ news, u.oneCell' = true) (hm : 0 < m)
    (h63 : n + m ≤ maxLen) (hbytes : (n + m) * bytes ≤ 140737488355328) (hbase : base ≤ w.heap.size)
    (h : ∀ v' w', w'.ownsRow base e size v' (n + m) (xs ++ news) → w.grownBy w' v.ownBlock → (v'.ownBlock = v.ownBlock ∨ v'.ownBlock = some w.heap.size) → K (a.put o.dst v') w') :
    if Region.wanted o (yielded ops a.tmps) = true then Oper.wp P o a w K Q else E := by
  have hw : Region.wanted o (yielded ops a.tmps) = true := by simp [Region.wanted, hgd]
  rw [if_pos hw]
  obtain ⟨v', w', hr, h2, h3, h4⟩ := run_append_own2 (P := P) w base t o.type e i z size bytes ht hi hz hsize hby hzs hsz v n xs hown ad m c news hl hnews h1 hm h63 hbytes hbase
  unfold Oper.wp execOp
  simp only [ho, resolve, invoke, builtin, Sem.run_bind, Sem.run_pure, Result.andThen_ok, List.map_toArray, List.map_cons, List.map_nil, hs, hx, hr]
  exact h v' w' h2 h3 h4
end Go.Proofs.YtlmoeldillpamaaDoor
