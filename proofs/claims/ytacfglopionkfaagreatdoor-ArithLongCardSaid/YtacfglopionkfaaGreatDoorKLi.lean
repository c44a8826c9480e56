/- KLi: several texts in one (kmerge.py). -/
import Derived.Orders
import Derived.RegionTactic
import Derived.WalkKit
import Derived.Laws.Rows
import Derived.Laws.Tables
import Derived.Great.BuildSlice
/- A region that draws its order: each operation by itself, from every world that meets a condition on what has come up. -/
namespace Go.Proofs.YtacfglopionkfaaGreatDoor.Reg
open Go

/-- What is asked of one operation, carried out in the frame T, ds and the world w. -/
def One (P : Program) (ops : Array Oper) (Q : Exit → Act → World → Prop) (o : Oper) (T : Array Value) (ds : List Deferred) (w : World) (K : Act → World → Prop) : Prop :=
  if Region.wanted o (yielded ops T) = true then Oper.wp P o ⟨T, ds⟩ w K Q else K (Act.put ⟨T, ds⟩ o.dst undef) w

def upd {α : Type} (f : Nat → α) (i : Nat) (v : α) : Nat → α := fun j => if j = i then v else f j
@[simp] theorem upd_same {α : Type} (f : Nat → α) (i : Nat) (v : α) : upd f i v i = v := by simp [upd]
theorem upd_ne {α : Type} (f : Nat → α) {i j : Nat} (v : α) (h : j ≠ i) : upd f i v j = f j := by simp [upd, h]

/-- The values of the operations, put into their places. -/
def putAll (ops : List Oper) (k : Nat) (u : Nat → Value) (a : Act) : Act :=
  match ops with
  | [] => a
  | o :: rest => putAll rest (k + 1) u (a.put o.dst (u k))

/-- The frame behind some operations (L): its size, what it holds of them, and what it holds elsewhere. -/
structure Fr (ops : Array Oper) (T0 : Array Value) (L : Nat → Bool) (u : Nat → Value) (T : Array Value) : Prop where
  size : T.size = T0.size
  out : ∀ k, (∀ (j : Nat) (o : Oper), ops[j]? = some o → o.dst ≠ some k) → T[k]? = T0[k]?
  val : ∀ (j : Nat) (o : Oper) (k : Nat), ops[j]? = some o → o.dst = some k → L j = true → T[k]? = some (u j)

/-- Each operation by itself, from every world that meets Φ. -/
def Each (P : Program) (ops : Array Oper) (Q : Exit → Act → World → Prop) (ds : List Deferred) (T0 : Array Value) (Φ : (Nat → Bool) → (Nat → Value) → World → Prop) : List Oper → Nat → Prop
  | [], _ => True
  | o :: rest, i => (∀ L u T w, L i = false → (o.after.all fun e => !Region.binds .any e || L e.on) = true → Fr ops T0 L u T → Φ L u w →
      ∀ K : Act → World → Prop, (∀ v w', Φ (upd L i true) (upd u i v) w' → K (Act.put ⟨T, ds⟩ o.dst v) w') → One P ops Q o T ds w K) ∧ Each P ops Q ds T0 Φ rest (i + 1)

theorem Each.at {P : Program} {ops : Array Oper} {Q : Exit → Act → World → Prop} {ds : List Deferred} {T0 : Array Value} {Φ : (Nat → Bool) → (Nat → Value) → World → Prop} :
    ∀ (l : List Oper) (k : Nat), Each P ops Q ds T0 Φ l k → ∀ (j : Nat) (o : Oper), l[j]? = some o →
      ∀ L u T w, L (k + j) = false → (o.after.all fun e => !Region.binds .any e || L e.on) = true → Fr ops T0 L u T → Φ L u w →
      ∀ K : Act → World → Prop, (∀ v w', Φ (upd L (k + j) true) (upd u (k + j) v) w' → K (Act.put ⟨T, ds⟩ o.dst v) w') → One P ops Q o T ds w K
  | [], _, _, _, _, h => by simp at h
  | _ :: _, k, hE, 0, o, h => by
    simp only [List.getElem?_cons_zero, Option.some.injEq] at h; subst h; exact hE.1
  | _ :: rest, k, hE, j + 1, o, h => by
    have := Each.at rest (k + 1) hE.2 j o (by simpa using h)
    rw [show k + (j + 1) = k + 1 + j by omega]
    exact this

/-- Each place is written by one operation at most. -/
def apartB : List Oper → Bool
  | [] => true
  | o :: rest => (match o.dst with | none => true | some k => rest.all fun o' => o'.dst != some k) && apartB rest

theorem apart_spec : ∀ (l : List Oper), apartB l = true → ∀ (i j : Nat) (o o' : Oper) (k : Nat), l[i]? = some o → l[j]? = some o' → o.dst = some k → o'.dst = some k → i = j
  | [], _, i, j, _, _, _, h, _, _, _ => by simp at h
  | o0 :: rest, hb, i, j, o, o', k, hi, hj, h1, h2 => by
    simp only [apartB, Bool.and_eq_true] at hb
    have key : ∀ (j : Nat) (o' : Oper), rest[j]? = some o' → o0.dst = some k → o'.dst = some k → False := fun j o' hj h1 h2 => by
      have hb1 := hb.1
      rw [h1] at hb1
      have := List.all_eq_true.1 hb1 o' (List.mem_of_getElem? hj)
      rw [h2] at this
      simp at this
    match i, j, hi, hj with
    | 0, 0, _, _ => rfl
    | 0, j + 1, hi, hj =>
      simp only [List.getElem?_cons_zero, Option.some.injEq] at hi; subst hi
      exact (key j o' (by simpa using hj) h1 h2).elim
    | i + 1, 0, hi, hj =>
      simp only [List.getElem?_cons_zero, Option.some.injEq] at hj; subst hj
      exact (key i o (by simpa using hi) h2 h1).elim
    | i + 1, j + 1, hi, hj =>
      have := apart_spec rest hb.2 i j o o' k (by simpa using hi) (by simpa using hj) h1 h2
      omega

theorem Fr.put {l : List Oper} {T0 T : Array Value} {L : Nat → Bool} {u : Nat → Value} (hap : apartB l = true) (h : Fr l.toArray T0 L u T)
    {i : Nat} {o : Oper} (hi : l[i]? = some o) (hd : ∀ k, o.dst = some k → k < T0.size) (ds : List Deferred) (v : Value) :
    Fr l.toArray T0 (upd L i true) (upd u i v) (Act.put ⟨T, ds⟩ o.dst v).tmps := by
  have hi' : l.toArray[i]? = some o := by simpa using hi
  cases hdst : o.dst with
  | none =>
    refine ⟨h.size, h.out, fun j o' k hj hk hL => ?_⟩
    by_cases hji : j = i
    · subst hji
      rw [hj] at hi'; simp only [Option.some.injEq] at hi'; subst hi'
      rw [hdst] at hk; cases hk
    · rw [upd_ne _ _ hji] at hL
      rw [upd_ne _ _ hji]
      exact h.val j o' k hj hk hL
  | some d =>
    refine ⟨by simp [Act.put, h.size], fun k hk => ?_, fun j o' k hj hk hL => ?_⟩
    · have hne : d ≠ k := fun e => hk i o hi' (by rw [hdst, e])
      simp only [Act.put, Array.getElem?_setIfInBounds, if_neg hne]
      exact h.out k hk
    · by_cases hji : j = i
      · subst hji
        rw [hj] at hi'; simp only [Option.some.injEq] at hi'; subst hi'
        rw [hdst] at hk; simp only [Option.some.injEq] at hk; subst hk
        have hlt : d < T.size := by rw [h.size]; exact hd d hdst
        simp [Act.put, hlt]
      · have hne : d ≠ k := fun e => hji (apart_spec l hap j i o' o k (by simpa using hj) hi hk (by rw [hdst, e]))
        simp only [Act.put, Array.getElem?_setIfInBounds, if_neg hne]
        rw [upd_ne _ _ hji] at hL
        rw [upd_ne _ _ hji]
        exact h.val j o' k hj hk hL

theorem putAll_defers : ∀ (l : List Oper) (k : Nat) (u : Nat → Value) (a : Act), (putAll l k u a).defers = a.defers
  | [], _, _, _ => rfl
  | o :: rest, k, u, a => by
    simp only [putAll]
    rw [putAll_defers rest]
    unfold Act.put
    cases o.dst <;> rfl
theorem putAll_out : ∀ (l : List Oper) (k : Nat) (u : Nat → Value) (a : Act) (d : Nat), (∀ o ∈ l, o.dst ≠ some d) → (putAll l k u a).tmps[d]? = a.tmps[d]?
  | [], _, _, _, _, _ => rfl
  | o :: rest, k, u, a, d, h => by
    simp only [putAll]
    rw [putAll_out rest _ _ _ _ (fun o' ho' => h o' (List.mem_cons_of_mem _ ho'))]
    unfold Act.put
    cases hd : o.dst with
    | none => rfl
    | some d' =>
      have : d' ≠ d := fun e => h o (List.mem_cons_self) (by rw [hd, e])
      simp [this]
theorem putAll_val : ∀ (l : List Oper) (k : Nat) (u : Nat → Value) (a : Act), apartB l = true → ∀ (j : Nat) (o : Oper) (d : Nat), l[j]? = some o → o.dst = some d → d < a.tmps.size →
    (putAll l k u a).tmps[d]? = some (u (k + j))
  | [], _, _, _, _, _, _, _, h, _, _ => by simp at h
  | o0 :: rest, k, u, a, hap, 0, o, d, h, hd, hs => by
    simp only [List.getElem?_cons_zero, Option.some.injEq] at h; subst h
    simp only [putAll]
    simp only [apartB, Bool.and_eq_true] at hap
    rw [putAll_out]
    · simp [Act.put, hd, hs]
    · intro o' ho' he
      have h1 := hap.1
      rw [hd] at h1
      have := List.all_eq_true.1 h1 o' ho'
      rw [he] at this
      simp at this
  | o0 :: rest, k, u, a, hap, j + 1, o, d, h, hd, hs => by
    simp only [putAll]
    simp only [apartB, Bool.and_eq_true] at hap
    rw [putAll_val rest (k + 1) u _ hap.2 j o d (by simpa using h) hd (by unfold Act.put; cases o0.dst <;> simpa using hs)]
    congr 2; omega

theorem fr_end {l : List Oper} {a : Act} {L : Nat → Bool} {u : Nat → Value} {T : Array Value} (hap : apartB l = true) (hd : ∀ o ∈ l, ∀ k, o.dst = some k → k < a.tmps.size)
    (h : Fr l.toArray a.tmps L u T) (hL : ∀ j, j < l.length → L j = true) : putAll l 0 u a = ⟨T, a.defers⟩ := by
  have h1 : (putAll l 0 u a).tmps = T := by
    apply Array.ext_getElem?
    intro k
    by_cases hk : ∃ (j : Nat) (o : Oper), l[j]? = some o ∧ o.dst = some k
    · obtain ⟨j, o, hj, hk⟩ := hk
      have hlt : j < l.length := (List.getElem?_eq_some_iff.1 hj).1
      rw [putAll_val l 0 u a hap j o k hj hk (hd o (List.mem_of_getElem? hj) k hk), h.val j o k (by simpa using hj) hk (hL j hlt), Nat.zero_add]
    · rw [putAll_out, h.out]
      · intro j o hj he; exact hk ⟨j, o, by simpa using hj, he⟩
      · intro o ho he
        obtain ⟨j, hj⟩ := List.getElem?_of_mem ho
        exact hk ⟨j, o, hj, he⟩
  have h2 := putAll_defers l 0 u a
  cases hp : putAll l 0 u a with
  | mk t d => rw [hp] at h1 h2; simp only at h1 h2; rw [h1, h2]

section
variable {P : Program} {Q : Exit → Act → World → Prop}

/-- How many have not come up. -/
def left (listed : Array Bool) : Nat := listed.toList.countP (fun b => !b)
theorem left_set : ∀ (l : List Bool) (i : Nat), l[i]? = some false → (l.set i true).countP (fun b => !b) + 1 = l.countP (fun b => !b)
  | [], _, h => by simp at h
  | b :: l, 0, h => by
    simp only [List.getElem?_cons_zero, Option.some.injEq] at h; subst h
    simp
  | b :: l, i + 1, h => by
    have := left_set l i (by simpa using h)
    simp only [List.set_cons_succ, List.countP_cons]
    omega

/-- **A region that draws its order: each operation by itself.** -/
theorem wp_region_each {id : Nat} {l : List Oper} {a : Act} {w : World} (Φ : (Nat → Bool) → (Nat → Value) → World → Prop)
    (hm : P.follows .mixedOrders = true) (hap : apartB l = true)
    (hd : (l.all fun o => match o.dst with | none => true | some k => k < a.tmps.size) = true)
    (hready : (l.zipIdx.all fun oi => oi.1.after.all fun e => !Region.binds .any e || e.on < oi.2) = true)
    (h0 : Φ (fun _ => false) (fun _ => undef) { w with drawn := w.drawn + 1 })
    (hE : Each P l.toArray Q a.defers a.tmps Φ l 0)
    (hend : ∀ L u w', (∀ j, j < l.length → L j = true) → Φ L u w' → Q .normal (putAll l 0 u a) w') : (Code.region id l.toArray true).wp P Q a w := by
  refine wp_region_any hm ?_
  have hd' : ∀ o ∈ l, ∀ k, o.dst = some k → k < a.tmps.size := fun o ho k hk => by
    have := List.all_eq_true.1 hd o ho
    rw [hk] at this
    simpa using this
  have key : ∀ (fuel : Nat) (listed : Array Bool) (L : Nat → Bool) (u : Nat → Value) (T : Array Value) (w : World),
      left listed ≤ fuel → listed.size = l.length → (∀ j, j < l.length → L j = listed.getD j true) → Fr l.toArray a.tmps L u T → Φ L u w → wpAny P .any l.toArray Q fuel listed ⟨T, a.defers⟩ w := by
    intro fuel
    induction fuel with
    | zero =>
      intro listed L u T w hf hs hL hF hΦ
      have hall : ∀ j, j < l.length → L j = true := by
        intro j hj
        rw [hL j hj]
        cases hb : listed.getD j true with
        | true => rfl
        | false =>
          have hlt : j < listed.size := by omega
          have hb' : listed[j]? = some false := by
            rw [Array.getElem?_eq_getElem hlt]
            simpa [Array.getD, hlt] using hb
          have := left_set listed.toList j (by simpa using hb')
          unfold left at hf
          omega
      refine ⟨?_, by rw [← fr_end hap hd' hF hall]; exact hend L u w hall hΦ⟩
      unfold Region.ready
      rw [List.filter_eq_nil_iff]
      intro j hj
      simp only [List.mem_range, List.size_toArray] at hj
      rw [← hL j hj, hall j hj]
      simp
    | succ fuel ih =>
      intro listed L u T w hf hs hL hF hΦ
      refine ⟨fun hr => ?_, fun i hi => ?_⟩
      · -- none can come up: all have
        have hall : ∀ j, j < l.length → L j = true := by
          intro j
          induction j using Nat.strongRecOn with
          | ind j ihj =>
            intro hj
            rw [hL j hj]
            cases hb : listed.getD j true with
            | true => rfl
            | false =>
              have hmem : j ∈ Region.ready .any l.toArray listed := by
                refine mem_ready.2 ⟨hb, l[j], by simp [hj], fun e he hbd => ?_⟩
                have h1 := List.all_eq_true.1 hready (l[j], j) (by
                  rw [List.mem_iff_getElem?]
                  exact ⟨j, by simp [hj]⟩)
                simp only [Array.all_eq_true_iff_forall_mem] at h1
                have h2 := h1 e he
                rw [hbd] at h2
                simp at h2
                have h3 := ihj e.on h2 (by omega)
                rw [hL _ (by omega)] at h3
                have hlt : e.on < listed.size := by omega
                simpa [Array.getD, hlt] using h3
              rw [hr] at hmem
              cases hmem
        rw [← fr_end hap hd' hF hall]
        exact hend L u w hall hΦ
      · obtain ⟨hun, o, ho, hdep⟩ := mem_ready.1 hi
        have ho' : l[i]? = some o := by simpa using ho
        have hlt : i < l.length := (List.getElem?_eq_some_iff.1 ho').1
        have hLi : L i = false := by rw [hL i hlt]; exact hun
        have hdeps : (o.after.all fun e => !Region.binds .any e || L e.on) = true := by
          rw [Array.all_eq_true_iff_forall_mem]
          intro e he
          cases hb : Region.binds .any e with
          | false => simp
          | true =>
            have h1 := List.all_eq_true.1 hready (o, i) (by
                  rw [List.mem_iff_getElem?]
                  exact ⟨i, by
                    rw [List.getElem?_eq_some_iff] at ho'
                    obtain ⟨h, rfl⟩ := ho'
                    simp⟩)
            simp only [Array.all_eq_true_iff_forall_mem] at h1
            have h2 := h1 e he
            rw [hb] at h2
            simp at h2
            have h3 := hdep e he hb
            have hlt' : e.on < listed.size := by omega
            rw [hL e.on (by omega)]
            simpa [Array.getD, hlt'] using h3
        have hone := Each.at l 0 hE i o ho' L u T w (by simpa using hLi) hdeps hF hΦ
        rw [Nat.zero_add] at hone
        refine wpOp_step ho fun K' hK' => ?_
        refine hone K' fun v w' hΦ' => hK' _ _ ?_
        have hF' := Fr.put (T := T) hap hF ho' (fun k hk => hd' o (List.mem_of_getElem? ho') k hk) a.defers v
        have hput : Act.put ⟨T, a.defers⟩ o.dst v = ⟨(Act.put ⟨T, a.defers⟩ o.dst v).tmps, a.defers⟩ := by
          unfold Act.put
          cases o.dst <;> rfl
        rw [hput]
        refine ih (listed.setIfInBounds i true) (upd L i true) (upd u i v) _ w' ?_ (by simpa using hs) ?_ hF' hΦ'
        · have hb' : listed[i]? = some false := by
            have hlt' : i < listed.size := by omega
            rw [Array.getElem?_eq_getElem hlt']
            simpa [Array.getD, hlt'] using hun
          have := left_set listed.toList i (by simpa using hb')
          unfold left at *
          simp only [Array.toList_setIfInBounds]
          omega
        · intro j hj
          by_cases hji : j = i
          · subst hji
            have hlt' : j < listed.size := by omega
            simp [Array.getD, hlt']
          · rw [upd_ne _ _ hji, hL j hj, getD_set_ne true (Ne.symm hji)]
  have hstart := key l.length (Array.replicate l.length false) (fun _ => false) (fun _ => undef) a.tmps { w with drawn := w.drawn + 1 }
    (by unfold left; simp [List.countP_replicate]) (by simp) (fun j hj => by simp [Array.getD, hj]) ⟨rfl, fun _ _ => rfl, fun _ _ _ _ _ h => by cases h⟩ h0
  simpa using hstart
end

/-! ### Values known ahead -/
def depsOf (o : Oper) : List Nat := (o.after.toList.filter fun e => Region.binds .any e).map (·.on)
/-- The value of operation k: just this one; or one with a property. -/
def Is (V : Nat → Option Value) (R : Nat → Value → World → Prop) (k : Nat) (x : Value) (w : World) : Prop :=
  match V k with
  | some v => x = v
  | none => R k x w
theorem Is.val {V : Nat → Option Value} {R : Nat → Value → World → Prop} {k : Nat} {x v : Value} {w : World} (h : Is V R k x w) (hv : V k = some v) : x = v := by
  unfold Is at h; rw [hv] at h; exact h
theorem Is.of_val {V : Nat → Option Value} {R : Nat → Value → World → Prop} {k : Nat} {v : Value} {w : World} (hv : V k = some v) : Is V R k v w := by
  unfold Is; rw [hv]
/-- What an operation may look at: the values of those ahead of it; what the region does not write. -/
structure Kn (l : List Oper) (T0 : Array Value) (V : Nat → Option Value) (R : Nat → Value → World → Prop) (o : Oper) (T : Array Value) (w : World) : Prop where
  dep : ∀ k d, (depsOf o).contains k = true → ((l[k]?).bind (·.dst)) = some d → ∃ x, T[d]? = some x ∧ Is V R k x w
  out : ∀ k, (l.all fun o => o.dst != some k) = true → T[k]? = T0[k]?
theorem Kn.val {l : List Oper} {T0 : Array Value} {V : Nat → Option Value} {R : Nat → Value → World → Prop} {o : Oper} {T : Array Value} {w : World} (h : Kn l T0 V R o T w) (k d : Nat) {v : Value}
    (h1 : (depsOf o).contains k = true) (h2 : ((l[k]?).bind (·.dst)) = some d) (h3 : V k = some v) : T[d]? = some v := by
  obtain ⟨x, hx, hi⟩ := h.dep k d h1 h2
  rw [hx, hi.val h3]
theorem Kn.old {l : List Oper} {T0 : Array Value} {V : Nat → Option Value} {R : Nat → Value → World → Prop} {o : Oper} {T : Array Value} {w : World} (h : Kn l T0 V R o T w) (k : Nat) {v : Value}
    (h1 : (l.all fun o => o.dst != some k) = true) (h2 : T0[k]? = some v) : T[k]? = some v := (h.out k h1).trans h2

theorem wanted_none {o : Oper} {y : Nat → Option Bool} (h : o.guard = none) : Region.wanted o y = true := by
  unfold Region.wanted; rw [h]
theorem wanted_guard {ops : Array Oper} {o : Oper} {T : Array Value} {j d : Nat} {b : Bool} (hg : o.guard = some (j, b)) (hd : ((ops[j]?).bind (·.dst)) = some d) (hT : T[d]? = some (.bool b)) :
    Region.wanted o (yielded ops T) = true := by
  unfold Region.wanted yielded
  rw [hg]
  simp only [hd, Option.bind_some, hT]
  simp
theorem unwanted_guard {ops : Array Oper} {o : Oper} {T : Array Value} {j d : Nat} {b : Bool} (hg : o.guard = some (j, !b)) (hd : ((ops[j]?).bind (·.dst)) = some d) (hT : T[d]? = some (.bool b)) :
    ¬ Region.wanted o (yielded ops T) = true := by
  unfold Region.wanted yielded
  rw [hg]
  simp only [hd, Option.bind_some, hT]
  cases b <;> simp

/-- Each operation by itself. -/
def EachV (P : Program) (l : List Oper) (Q : Exit → Act → World → Prop) (ds : List Deferred) (T0 : Array Value) (S : World → Prop) (V : Nat → Option Value) (R : Nat → Value → World → Prop) : List Oper → Nat → Prop
  | [], _ => True
  | o :: rest, i => (∀ T w, S w → Kn l T0 V R o T w →
      ∀ K : Act → World → Prop, (∀ v w', S w' → Is V R i v w' → (∀ j x, V j = none → R j x w → R j x w') → K (Act.put ⟨T, ds⟩ o.dst v) w') → One P l.toArray Q o T ds w K) ∧ EachV P l Q ds T0 S V R rest (i + 1)

theorem EachV.each {P : Program} {l : List Oper} {Q : Exit → Act → World → Prop} {ds : List Deferred} {T0 : Array Value} {S : World → Prop} {V : Nat → Option Value} {R : Nat → Value → World → Prop} :
    ∀ (r : List Oper) (i : Nat), EachV P l Q ds T0 S V R r i → Each P l.toArray Q ds T0 (fun L u w => S w ∧ ∀ j, L j = true → Is V R j (u j) w) r i
  | [], _, _ => trivial
  | o :: rest, i, h => by
    refine ⟨fun L u T w hL hd hF hΦ K hK => ?_, EachV.each rest (i + 1) h.2⟩
    refine h.1 T w hΦ.1 ⟨fun k d h1 h2 => ?_, fun k hk => hF.out k fun j o' hj he => ?_⟩ K fun v w' hS hi hst => hK v w' ⟨hS, fun j hj => ?_⟩
    · have hk : L k = true := by
        simp only [depsOf, List.contains_iff_mem, List.mem_map, List.mem_filter, Array.mem_toList_iff] at h1
        obtain ⟨e, ⟨he, hb⟩, rfl⟩ := h1
        have := (Array.all_eq_true_iff_forall_mem.1 hd) e he
        rw [hb] at this
        simpa using this
      obtain ⟨o', ho', hd'⟩ := Option.bind_eq_some_iff.1 h2
      exact ⟨u k, hF.val k o' d (by simpa using ho') hd' hk, hΦ.2 k hk⟩
    · have := List.all_eq_true.1 hk o' (List.mem_of_getElem? (by simpa using hj))
      rw [he] at this
      simp at this
    · by_cases hji : j = i
      · subst hji; rw [upd_same]; exact hi
      · rw [upd_ne _ _ hji] at hj ⊢
        have h3 := hΦ.2 j hj
        unfold Is at h3 ⊢
        cases hv : V j with
        | none => rw [hv] at h3; exact hst j _ hv h3
        | some v => rw [hv] at h3; exact h3

section
variable {P : Program} {l : List Oper} {Q : Exit → Act → World → Prop} {ds : List Deferred} {T0 : Array Value} {S : World → Prop} {V : Nat → Option Value} {R : Nat → Value → World → Prop} {o : Oper} {rest : List Oper} {i : Nat}
theorem EachV.nil : EachV P l Q ds T0 S V R [] i := trivial
theorem EachV.plain (hg : o.guard = none)
    (h1 : ∀ T w, S w → Kn l T0 V R o T w → ∀ K : Act → World → Prop, (∀ v w', S w' → Is V R i v w' → (∀ j x, V j = none → R j x w → R j x w') → K (Act.put ⟨T, ds⟩ o.dst v) w') → Oper.wp P o ⟨T, ds⟩ w K Q)
    (h2 : EachV P l Q ds T0 S V R rest (i + 1)) : EachV P l Q ds T0 S V R (o :: rest) i :=
  ⟨fun T w hS hk K hK => by unfold One; rw [if_pos (wanted_none hg)]; exact h1 T w hS hk K hK, h2⟩
theorem EachV.guarded (j d : Nat) (b : Bool) (hg : o.guard = some (j, b)) (hc : (depsOf o).contains j = true) (hd : ((l[j]?).bind (·.dst)) = some d) (hv : V j = some (.bool b))
    (h1 : ∀ T w, S w → Kn l T0 V R o T w → ∀ K : Act → World → Prop, (∀ v w', S w' → Is V R i v w' → (∀ j x, V j = none → R j x w → R j x w') → K (Act.put ⟨T, ds⟩ o.dst v) w') → Oper.wp P o ⟨T, ds⟩ w K Q)
    (h2 : EachV P l Q ds T0 S V R rest (i + 1)) : EachV P l Q ds T0 S V R (o :: rest) i :=
  ⟨fun T w hS hk K hK => by
    unfold One
    rw [if_pos (wanted_guard hg (by simpa using hd) (hk.val j d hc hd hv))]
    exact h1 T w hS hk K hK, h2⟩
theorem EachV.passed (j d : Nat) (b : Bool) (hg : o.guard = some (j, !b)) (hc : (depsOf o).contains j = true) (hd : ((l[j]?).bind (·.dst)) = some d) (hv : V j = some (.bool b)) (hi : V i = some undef)
    (h2 : EachV P l Q ds T0 S V R rest (i + 1)) : EachV P l Q ds T0 S V R (o :: rest) i :=
  ⟨fun T w hS hk K hK => by
    unfold One
    rw [if_neg (unwanted_guard hg (by simpa using hd) (hk.val j d hc hd hv))]
    exact hK _ w hS (Is.of_val hi) fun _ _ _ h => h, h2⟩
end

/-- **A region that draws its order, the values known ahead (V), or by a property (R).** -/
theorem wp_region_vals {P : Program} {Q : Exit → Act → World → Prop} {id : Nat} {l : List Oper} {a : Act} {w : World} (S : World → Prop) (V : Nat → Option Value) (R : Nat → Value → World → Prop)
    (hm : P.follows .mixedOrders = true) (hap : apartB l = true)
    (hd : (l.all fun o => match o.dst with | none => true | some k => k < a.tmps.size) = true)
    (hready : (l.zipIdx.all fun oi => oi.1.after.all fun e => !Region.binds .any e || e.on < oi.2) = true)
    (h0 : S { w with drawn := w.drawn + 1 })
    (hE : EachV P l Q a.defers a.tmps S V R l 0)
    (hend : ∀ u w', S w' → (∀ j, j < l.length → Is V R j (u j) w') → Q .normal (putAll l 0 u a) w') : (Code.region id l.toArray true).wp P Q a w :=
  wp_region_each (fun L u w => S w ∧ ∀ j, L j = true → Is V R j (u j) w) hm hap hd hready ⟨h0, fun j hj => by cases hj⟩ (hE.each l 0)
    fun _ u w' hL hΦ => hend u w' hΦ.1 fun j hj => hΦ.2 j (hL j hj)
end Go.Proofs.YtacfglopionkfaaGreatDoor.Reg
/- A part of a row, loaded and stored as one value. -/
namespace Go.Proofs.YtacfglopionkfaaGreatDoor


section
variable {P : Program}
/-- The cells with those from o on replaced. -/
def spl (cur : List Value) (o : Nat) (vs : List Value) : List Value := cur.take o ++ vs ++ cur.drop (o + vs.length)
theorem spl_at (cur : List Value) (o : Nat) (vs : List Value) (h : o + vs.length ≤ cur.length) (j : Nat) : (spl cur o vs)[j]? = if j < o then cur[j]? else if j < o + vs.length then vs[j - o]? else cur[j]? := by
  unfold spl
  have h1 : (cur.take o).length = o := by rw [List.length_take]; omega
  by_cases hj : j < o
  · rw [if_pos hj, List.append_assoc, List.getElem?_append_left (by omega), List.getElem?_take, if_pos hj]
  · rw [if_neg hj, List.append_assoc, List.getElem?_append_right (by omega), h1]
    by_cases hj2 : j < o + vs.length
    · rw [if_pos hj2, List.getElem?_append_left (by omega)]
    · rw [if_neg hj2, List.getElem?_append_right (by omega), List.getElem?_drop]
      congr 1
      omega
theorem run_storeCells_part (g o : Nat) (t : TypeId) : ∀ (vs : List Value) (i : Nat) (cur : Array Value) (w : World), w.heap[g]? = some (.cells cur t (0, 0)) → o + i + vs.length ≤ cur.size → (∀ v ∈ vs, v.oneCell' = true) →
    (storeCells ⟨g, o, none⟩ vs i).run P w = .ok () (w.setRow g (spl cur.toList (o + i) vs).toArray)
  | [], i, cur, w, hg, hl, _ => by
    have e : spl cur.toList (o + i) [] = cur.toList := by unfold spl; simp
    have hlt : g < w.heap.size := (Array.getElem?_eq_some_iff.1 hg).1
    have hv : w.heap[g] = .cells cur t (0, 0) := (Array.getElem?_eq_some_iff.1 hg).2
    rw [e, Array.toArray_toList]
    simp only [storeCells]
    show Result.ok () w = _
    congr 1
    unfold World.setRow
    cases w with
    | mk heap tape drawn os output =>
      congr 1
      apply Array.ext
      · simp
      · intro k h1 h2
        simp only [Array.getElem_modify]
        split
        · rename_i hk; subst hk; simp at hv; simp [hv]
        · rfl
  | v :: rest, i, cur, w, hg, hl, h1 => by
    have hi : o + i < cur.size := by simp at hl; omega
    have hadd : (⟨g, o, none⟩ : Addr).add i = ⟨g, o + i, none⟩ := WideShapes.add_plain _ _ _
    have hcell : w.cell? ⟨g, o + i, none⟩ = some cur[o + i] := by simp [World.cell?, hg, hi]
    have hfro : w.frozen? ⟨g, o + i, none⟩ = false := by simp [World.frozen?, hg]
    have hst : (store ((⟨g, o, none⟩ : Addr).add i) v).run P w = .ok () (w.setRow g (cur.setIfInBounds (o + i) v)) := by
      rw [hadd, run_store P w _ v _ (h1 v (by simp)), hcell]
      simp [hfro, setCell_eq_setRow w g (o + i) cur t (0, 0) v hg]
    have ih := run_storeCells_part g o t rest (i + 1) (cur.setIfInBounds (o + i) v) (w.setRow g (cur.setIfInBounds (o + i) v)) (setRow_heap w g cur _ t _ hg) (by simp at hl ⊢; omega) (fun x hx => h1 x (by simp [hx]))
    simp only [storeCells, Sem.run_bind, hst, Result.andThen_ok, ih, setRow_setRow]
    congr 3
    apply List.ext_getElem?
    intro k
    have hl' : o + i + (v :: rest).length ≤ cur.toList.length := by simpa using hl
    have hl2 : o + (i + 1) + rest.length ≤ (cur.setIfInBounds (o + i) v).toList.length := by simp at hl ⊢; omega
    rw [spl_at _ _ _ hl', spl_at _ _ _ hl2]
    simp only [Array.toList_setIfInBounds, List.getElem?_set, List.length_cons, Array.length_toList]
    by_cases hk : k < o + i
    · rw [if_pos (show k < o + (i + 1) by omega), if_pos hk, if_neg (show ¬ o + i = k by omega)]
    · by_cases hk2 : k = o + i
      · subst hk2
        rw [if_pos (show o + i < o + (i + 1) by omega), if_neg (show ¬ o + i < o + i by omega), if_pos (show o + i < o + i + (rest.length + 1) by omega), if_pos rfl, if_pos (show o + i < cur.size from hi), Nat.sub_self]
        rfl
      · rw [if_neg (show ¬ k < o + (i + 1) by omega), if_neg hk]
        by_cases hk3 : k < o + (i + 1) + rest.length
        · rw [if_pos hk3, if_pos (show k < o + i + (rest.length + 1) by omega), show k - (o + i) = (k - (o + (i + 1))) + 1 by omega]
          rfl
        · rw [if_neg hk3, if_neg (show ¬ k < o + i + (rest.length + 1) by omega), if_neg (show ¬ o + i = k by omega)]
theorem run_storeVar_part (w : World) (g o : Nat) (t ty : TypeId) (cur : Array Value) (vs : List Value) (hg : w.heap[g]? = some (.cells cur t (0, 0))) (hi : (P.info? ty).map (·.size) = some vs.length)
    (ho : o + vs.length ≤ cur.size) (h1 : vs.all (·.oneCell') = true) :
    (storeVar ty ⟨g, o, none⟩ (.agg vs.toArray)).run P w = .ok () (w.setRow g (spl cur.toList o vs).toArray) := by
  have := run_storeCells_part (P := P) g o t vs 0 cur w hg (by omega) (fun v hv => (List.all_eq_true.1 h1) v hv)
  rw [Nat.add_zero] at this
  cases hq : P.info? ty with
  | none => simp [hq] at hi
  | some i =>
    have hs : vs.length = i.size := by simp [hq] at hi; omega
    simp [storeVar, sizeOf, typeInfo, hq, Value.cells, hs, this]
theorem wp_store_part {o : Oper} {a : Act} {w : World} {K : Act → World → Prop} {Q : Exit → Act → World → Prop} (ty : TypeId) (x y : Operand) (ho : o.op = .store ty x y)
    (g i : Nat) (vs : List Value) (hx : a.eval x = .pointer (some ⟨g, i, none⟩)) (hy : a.eval y = .agg vs.toArray)
    (t : TypeId) (cur : Array Value) (hg : w.heap[g]? = some (.cells cur t (0, 0))) (hi : (P.info? ty).map (·.size) = some vs.length)
    (hc : i + vs.length ≤ cur.size) (h1 : vs.all (·.oneCell') = true)
    (h : K (a.put o.dst undef) (w.setRow g (spl cur.toList i vs).toArray)) : o.wp P a w K Q := by
  unfold Oper.wp execOp
  simp only [ho, hx, hy, Instr.storeAt, Instr.sureAddr, Sem.run_bind, Sem.run_pure, Result.andThen_ok, run_storeVar_part w g i t ty cur vs hg hi hc h1]
  exact h
theorem wpList_store_part {ops : Array Oper} {rest : List Oper} {o : Oper} {a : Act} {w : World} {Q : Exit → Act → World → Prop} (hgd : o.guard = none) (ty : TypeId) (x y : Operand) (ho : o.op = .store ty x y) (hd : o.dst = none)
    (g i : Nat) (vs : List Value) (hx : a.eval x = .pointer (some ⟨g, i, none⟩)) (hy : a.eval y = .agg vs.toArray)
    (t : TypeId) (cur : Array Value) (hg : w.heap[g]? = some (.cells cur t (0, 0))) (hi : (P.info? ty).map (·.size) = some vs.length)
    (hc : i + vs.length ≤ cur.size) (h1 : vs.all (·.oneCell') = true)
    (h : wpList P ops Q rest a (w.setRow g (spl cur.toList i vs).toArray)) : wpList P ops Q (o :: rest) a w :=
  wpList_plain hgd fun _ hK => wp_store_part ty x y ho g i vs hx hy t cur hg hi hc h1 (hK _ _ (by rw [hd]; exact h))
end
end Go.Proofs.YtacfglopionkfaaGreatDoor
