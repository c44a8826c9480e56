/- Proved here: for any set the statement that its text is the reference's answers true, and its argument reads as before. Condition: the sentinels' variables and the listed tables read as the row lists them, which the tie gives. -/
import Derived.Orders
import Derived.RegionTactic
import Derived.Test.YtndgomocehfmgaaDoorGlM1
import Derived.Test.YtndgomocehfmgaaDoorGlM3
import Derived.Test.YtndgomocehfmgaaDoorGlO
import Derived.Test.YtndgomocehfmgaaDoorSeAwk
import Derived.Test.YtndgomocehfmgaaDoorRows
import Derived.Test.YtndgomocehfmgaaDoorCards
import Derived.Test.YtndgomocehfmgaaDoorTie
import Derived.Lay
import Derived.MakeChecks
import Derived.SizedLaws
import Derived.ProofKit
import Derived.LaidMore
import Derived.Stop.Joined
import Derived.Carry
/- A region that draws its order (as LiReg and LiSto, and slots that the region writes only later are as they were). -/
namespace Go.Proofs.YtndgomocehfmgaaDoor.Reg2
open Go

/-- What is asked of one operation, carried out in the frame T, ds and the world w. -/
def One (P : Program) (ops : Array Oper) (Q : Exit → Act → World → Prop) (o : Oper) (T : Array Value) (ds : List Deferred) (w : World) (K : Act → World → Prop) : Prop :=
  if Region.wanted o (yielded ops T) = true then Oper.wp P o ⟨T, ds⟩ w K Q else K (Act.put ⟨T, ds⟩ o.dst undef) w

def upd {α : Type} (f : Nat → α) (i : Nat) (v : α) : Nat → α := fun j => if j = i then v else f j
@[simp] theorem upd_same {α : Type} (f : Nat → α) (i : Nat) (v : α) : upd f i v i = v := by simp [upd]
theorem upd_ne {α : Type} (f : Nat → α) {i j : Nat} (v : α) (h : j ≠ i) : upd f i v j = f j := by simp [upd, h]

/-- The values of the operations, put into their places. -/
def putAll (ops : List Oper) (k : Nat) (u : Nat → Value) (a : Act) : Act :=
  match ops with
  | [] => a
  | o :: rest => putAll rest (k + 1) u (a.put o.dst (u k))

/-- The frame behind some operations (L): its size, what it holds of them, and what it holds elsewhere. -/
structure Fr (ops : Array Oper) (T0 : Array Value) (L : Nat → Bool) (u : Nat → Value) (T : Array Value) : Prop where
  size : T.size = T0.size
  out : ∀ k, (∀ (j : Nat) (o : Oper), ops[j]? = some o → o.dst ≠ some k) → T[k]? = T0[k]?
  val : ∀ (j : Nat) (o : Oper) (k : Nat), ops[j]? = some o → o.dst = some k → L j = true → T[k]? = some (u j)
  yet : ∀ (j : Nat) (o : Oper) (k : Nat), ops[j]? = some o → o.dst = some k → L j = false → T[k]? = T0[k]?

/-- Each operation by itself, from every world that meets Φ. -/
def Each (P : Program) (ops : Array Oper) (Q : Exit → Act → World → Prop) (ds : List Deferred) (T0 : Array Value) (Φ : (Nat → Bool) → (Nat → Value) → World → Prop) : List Oper → Nat → Prop
  | [], _ => True
  | o :: rest, i => (∀ L u T w, L i = false → (o.after.all fun e => !Region.binds .any e || L e.on) = true → Fr ops T0 L u T → Φ L u w →
      ∀ K : Act → World → Prop, (∀ v w', Φ (upd L i true) (upd u i v) w' → K (Act.put ⟨T, ds⟩ o.dst v) w') → One P ops Q o T ds w K) ∧ Each P ops Q ds T0 Φ rest (i + 1)

theorem Each.at {P : Program} {ops : Array Oper} {Q : Exit → Act → World → Prop} {ds : List Deferred} {T0 : Array Value} {Φ : (Nat → Bool) → (Nat → Value) → World → Prop} :
    ∀ (l : List Oper) (k : Nat), Each P ops Q ds T0 Φ l k → ∀ (j : Nat) (o : Oper), l[j]? = some o →
      ∀ L u T w, L (k + j) = false → (o.after.all fun e => !Region.binds .any e || L e.on) = true → Fr ops T0 L u T → Φ L u w →
      ∀ K : Act → World → Prop, (∀ v w', Φ (upd L (k + j) true) (upd u (k + j) v) w' → K (Act.put ⟨T, ds⟩ o.dst v) w') → One P ops Q o T ds w K
  | [], _, _, _, _, h => by simp at h
  | _ :: _, k, hE, 0, o, h => by
    simp only [List.getElem?_cons_zero, Option.some.injEq] at h; subst h; exact hE.1
  | _ :: rest, k, hE, j + 1, o, h => by
    have := Each.at rest (k + 1) hE.2 j o (by simpa using h)
    rw [show k + (j + 1) = k + 1 + j by omega]
    exact this

/-- Each place is written by one operation at most. -/
def apartB : List Oper → Bool
  | [] => true
  | o :: rest => (match o.dst with | none => true | some k => rest.all fun o' => o'.dst != some k) && apartB rest

theorem apart_spec : ∀ (l : List Oper), apartB l = true → ∀ (i j : Nat) (o o' : Oper) (k : Nat), l[i]? = some o → l[j]? = some o' → o.dst = some k → o'.dst = some k → i = j
  | [], _, i, j, _, _, _, h, _, _, _ => by simp at h
  | o0 :: rest, hb, i, j, o, o', k, hi, hj, h1, h2 => by
    simp only [apartB, Bool.and_eq_true] at hb
    have key : ∀ (j : Nat) (o' : Oper), rest[j]? = some o' → o0.dst = some k → o'.dst = some k → False := fun j o' hj h1 h2 => by
      have hb1 := hb.1
      rw [h1] at hb1
      have := List.all_eq_true.1 hb1 o' (List.mem_of_getElem? hj)
      rw [h2] at this
      simp at this
    match i, j, hi, hj with
    | 0, 0, _, _ => rfl
    | 0, j + 1, hi, hj =>
      simp only [List.getElem?_cons_zero, Option.some.injEq] at hi; subst hi
      exact (key j o' (by simpa using hj) h1 h2).elim
    | i + 1, 0, hi, hj =>
      simp only [List.getElem?_cons_zero, Option.some.injEq] at hj; subst hj
      exact (key i o (by simpa using hi) h2 h1).elim
    | i + 1, j + 1, hi, hj =>
      have := apart_spec rest hb.2 i j o o' k (by simpa using hi) (by simpa using hj) h1 h2
      omega

theorem Fr.put {l : List Oper} {T0 T : Array Value} {L : Nat → Bool} {u : Nat → Value} (hap : apartB l = true) (h : Fr l.toArray T0 L u T)
    {i : Nat} {o : Oper} (hi : l[i]? = some o) (hd : ∀ k, o.dst = some k → k < T0.size) (ds : List Deferred) (v : Value) :
    Fr l.toArray T0 (upd L i true) (upd u i v) (Act.put ⟨T, ds⟩ o.dst v).tmps := by
  have hi' : l.toArray[i]? = some o := by simpa using hi
  cases hdst : o.dst with
  | none =>
    refine ⟨h.size, h.out, fun j o' k hj hk hL => ?_, fun j o' k hj hk hL => ?_⟩
    · by_cases hji : j = i
      · subst hji
        rw [hj] at hi'; simp only [Option.some.injEq] at hi'; subst hi'
        rw [hdst] at hk; cases hk
      · rw [upd_ne _ _ hji] at hL
        rw [upd_ne _ _ hji]
        exact h.val j o' k hj hk hL
    · by_cases hji : j = i
      · subst hji; rw [upd_same] at hL; cases hL
      · rw [upd_ne _ _ hji] at hL
        exact h.yet j o' k hj hk hL
  | some d =>
    refine ⟨by simp [Act.put, h.size], fun k hk => ?_, fun j o' k hj hk hL => ?_, fun j o' k hj hk hL => ?_⟩
    · have hne : d ≠ k := fun e => hk i o hi' (by rw [hdst, e])
      simp only [Act.put, Array.getElem?_setIfInBounds, if_neg hne]
      exact h.out k hk
    · by_cases hji : j = i
      · subst hji
        rw [hj] at hi'; simp only [Option.some.injEq] at hi'; subst hi'
        rw [hdst] at hk; simp only [Option.some.injEq] at hk; subst hk
        have hlt : d < T.size := by rw [h.size]; exact hd d hdst
        simp [Act.put, hlt]
      · have hne : d ≠ k := fun e => hji (apart_spec l hap j i o' o k (by simpa using hj) hi hk (by rw [hdst, e]))
        simp only [Act.put, Array.getElem?_setIfInBounds, if_neg hne]
        rw [upd_ne _ _ hji] at hL
        rw [upd_ne _ _ hji]
        exact h.val j o' k hj hk hL
    · by_cases hji : j = i
      · subst hji; rw [upd_same] at hL; cases hL
      · have hne : d ≠ k := fun e => hji (apart_spec l hap j i o' o k (by simpa using hj) hi hk (by rw [hdst, e]))
        simp only [Act.put, Array.getElem?_setIfInBounds, if_neg hne]
        rw [upd_ne _ _ hji] at hL
        exact h.yet j o' k hj hk hL

theorem putAll_defers : ∀ (l : List Oper) (k : Nat) (u : Nat → Value) (a : Act), (putAll l k u a).defers = a.defers
  | [], _, _, _ => rfl
  | o :: rest, k, u, a => by
    simp only [putAll]
    rw [putAll_defers rest]
    unfold Act.put
    cases o.dst <;> rfl
theorem putAll_size : ∀ (l : List Oper) (k : Nat) (u : Nat → Value) (a : Act), (putAll l k u a).tmps.size = a.tmps.size
  | [], _, _, _ => rfl
  | o :: rest, k, u, a => by
    simp only [putAll]
    rw [putAll_size rest]
    unfold Act.put
    cases o.dst <;> simp
theorem putAll_out : ∀ (l : List Oper) (k : Nat) (u : Nat → Value) (a : Act) (d : Nat), (∀ o ∈ l, o.dst ≠ some d) → (putAll l k u a).tmps[d]? = a.tmps[d]?
  | [], _, _, _, _, _ => rfl
  | o :: rest, k, u, a, d, h => by
    simp only [putAll]
    rw [putAll_out rest _ _ _ _ (fun o' ho' => h o' (List.mem_cons_of_mem _ ho'))]
    unfold Act.put
    cases hd : o.dst with
    | none => rfl
    | some d' =>
      have : d' ≠ d := fun e => h o (List.mem_cons_self) (by rw [hd, e])
      simp [this]
theorem putAll_val : ∀ (l : List Oper) (k : Nat) (u : Nat → Value) (a : Act), apartB l = true → ∀ (j : Nat) (o : Oper) (d : Nat), l[j]? = some o → o.dst = some d → d < a.tmps.size →
    (putAll l k u a).tmps[d]? = some (u (k + j))
  | [], _, _, _, _, _, _, _, h, _, _ => by simp at h
  | o0 :: rest, k, u, a, hap, 0, o, d, h, hd, hs => by
    simp only [List.getElem?_cons_zero, Option.some.injEq] at h; subst h
    simp only [putAll]
    simp only [apartB, Bool.and_eq_true] at hap
    rw [putAll_out]
    · simp [Act.put, hd, hs]
    · intro o' ho' he
      have h1 := hap.1
      rw [hd] at h1
      have := List.all_eq_true.1 h1 o' ho'
      rw [he] at this
      simp at this
  | o0 :: rest, k, u, a, hap, j + 1, o, d, h, hd, hs => by
    simp only [putAll]
    simp only [apartB, Bool.and_eq_true] at hap
    rw [putAll_val rest (k + 1) u _ hap.2 j o d (by simpa using h) hd (by unfold Act.put; cases o0.dst <;> simpa using hs)]
    congr 2; omega

theorem fr_end {l : List Oper} {a : Act} {L : Nat → Bool} {u : Nat → Value} {T : Array Value} (hap : apartB l = true) (hd : ∀ o ∈ l, ∀ k, o.dst = some k → k < a.tmps.size)
    (h : Fr l.toArray a.tmps L u T) (hL : ∀ j, j < l.length → L j = true) : putAll l 0 u a = ⟨T, a.defers⟩ := by
  have h1 : (putAll l 0 u a).tmps = T := by
    apply Array.ext_getElem?
    intro k
    by_cases hk : ∃ (j : Nat) (o : Oper), l[j]? = some o ∧ o.dst = some k
    · obtain ⟨j, o, hj, hk⟩ := hk
      have hlt : j < l.length := (List.getElem?_eq_some_iff.1 hj).1
      rw [putAll_val l 0 u a hap j o k hj hk (hd o (List.mem_of_getElem? hj) k hk), h.val j o k (by simpa using hj) hk (hL j hlt), Nat.zero_add]
    · rw [putAll_out, h.out]
      · intro j o hj he; exact hk ⟨j, o, by simpa using hj, he⟩
      · intro o ho he
        obtain ⟨j, hj⟩ := List.getElem?_of_mem ho
        exact hk ⟨j, o, hj, he⟩
  have h2 := putAll_defers l 0 u a
  cases hp : putAll l 0 u a with
  | mk t d => rw [hp] at h1 h2; simp only at h1 h2; rw [h1, h2]

section
variable {P : Program} {Q : Exit → Act → World → Prop}

/-- How many have not come up. -/
def left (listed : Array Bool) : Nat := listed.toList.countP (fun b => !b)
theorem left_set : ∀ (l : List Bool) (i : Nat), l[i]? = some false → (l.set i true).countP (fun b => !b) + 1 = l.countP (fun b => !b)
  | [], _, h => by simp at h
  | b :: l, 0, h => by
    simp only [List.getElem?_cons_zero, Option.some.injEq] at h; subst h
    simp
  | b :: l, i + 1, h => by
    have := left_set l i (by simpa using h)
    simp only [List.set_cons_succ, List.countP_cons]
    omega

/-- **A region that draws its order: each operation by itself.** -/
theorem wp_region_each {id : Nat} {l : List Oper} {a : Act} {w : World} (Φ : (Nat → Bool) → (Nat → Value) → World → Prop)
    (hm : P.follows .mixedOrders = true) (hap : apartB l = true)
    (hd : (l.all fun o => match o.dst with | none => true | some k => k < a.tmps.size) = true)
    (hready : (l.zipIdx.all fun oi => oi.1.after.all fun e => !Region.binds .any e || e.on < oi.2) = true)
    (h0 : Φ (fun _ => false) (fun _ => undef) { w with drawn := w.drawn + 1 })
    (hE : Each P l.toArray Q a.defers a.tmps Φ l 0)
    (hend : ∀ L u w', (∀ j, j < l.length → L j = true) → Φ L u w' → Q .normal (putAll l 0 u a) w') : (Code.region id l.toArray true).wp P Q a w := by
  refine wp_region_any hm ?_
  have hd' : ∀ o ∈ l, ∀ k, o.dst = some k → k < a.tmps.size := fun o ho k hk => by
    have := List.all_eq_true.1 hd o ho
    rw [hk] at this
    simpa using this
  have key : ∀ (fuel : Nat) (listed : Array Bool) (L : Nat → Bool) (u : Nat → Value) (T : Array Value) (w : World),
      left listed ≤ fuel → listed.size = l.length → (∀ j, j < l.length → L j = listed.getD j true) → Fr l.toArray a.tmps L u T → Φ L u w → wpAny P .any l.toArray Q fuel listed ⟨T, a.defers⟩ w := by
    intro fuel
    induction fuel with
    | zero =>
      intro listed L u T w hf hs hL hF hΦ
      have hall : ∀ j, j < l.length → L j = true := by
        intro j hj
        rw [hL j hj]
        cases hb : listed.getD j true with
        | true => rfl
        | false =>
          have hlt : j < listed.size := by omega
          have hb' : listed[j]? = some false := by
            rw [Array.getElem?_eq_getElem hlt]
            simpa [Array.getD, hlt] using hb
          have := left_set listed.toList j (by simpa using hb')
          unfold left at hf
          omega
      refine ⟨?_, by rw [← fr_end hap hd' hF hall]; exact hend L u w hall hΦ⟩
      unfold Region.ready
      rw [List.filter_eq_nil_iff]
      intro j hj
      simp only [List.mem_range, List.size_toArray] at hj
      rw [← hL j hj, hall j hj]
      simp
    | succ fuel ih =>
      intro listed L u T w hf hs hL hF hΦ
      refine ⟨fun hr => ?_, fun i hi => ?_⟩
      · -- none can come up: all have
        have hall : ∀ j, j < l.length → L j = true := by
          intro j
          induction j using Nat.strongRecOn with
          | ind j ihj =>
            intro hj
            rw [hL j hj]
            cases hb : listed.getD j true with
            | true => rfl
            | false =>
              have hmem : j ∈ Region.ready .any l.toArray listed := by
                refine mem_ready.2 ⟨hb, l[j], by simp [hj], fun e he hbd => ?_⟩
                have h1 := List.all_eq_true.1 hready (l[j], j) (by
                  rw [List.mem_iff_getElem?]
                  exact ⟨j, by simp [hj]⟩)
                simp only [Array.all_eq_true_iff_forall_mem] at h1
                have h2 := h1 e he
                rw [hbd] at h2
                simp at h2
                have h3 := ihj e.on h2 (by omega)
                rw [hL _ (by omega)] at h3
                have hlt : e.on < listed.size := by omega
                simpa [Array.getD, hlt] using h3
              rw [hr] at hmem
              cases hmem
        rw [← fr_end hap hd' hF hall]
        exact hend L u w hall hΦ
      · obtain ⟨hun, o, ho, hdep⟩ := mem_ready.1 hi
        have ho' : l[i]? = some o := by simpa using ho
        have hlt : i < l.length := (List.getElem?_eq_some_iff.1 ho').1
        have hLi : L i = false := by rw [hL i hlt]; exact hun
        have hdeps : (o.after.all fun e => !Region.binds .any e || L e.on) = true := by
          rw [Array.all_eq_true_iff_forall_mem]
          intro e he
          cases hb : Region.binds .any e with
          | false => simp
          | true =>
            have h1 := List.all_eq_true.1 hready (o, i) (by
                  rw [List.mem_iff_getElem?]
                  exact ⟨i, by
                    rw [List.getElem?_eq_some_iff] at ho'
                    obtain ⟨h, rfl⟩ := ho'
                    simp⟩)
            simp only [Array.all_eq_true_iff_forall_mem] at h1
            have h2 := h1 e he
            rw [hb] at h2
            simp at h2
            have h3 := hdep e he hb
            have hlt' : e.on < listed.size := by omega
            rw [hL e.on (by omega)]
            simpa [Array.getD, hlt'] using h3
        have hone := Each.at l 0 hE i o ho' L u T w (by simpa using hLi) hdeps hF hΦ
        rw [Nat.zero_add] at hone
        refine wpOp_step ho fun K' hK' => ?_
        refine hone K' fun v w' hΦ' => hK' _ _ ?_
        have hF' := Fr.put (T := T) hap hF ho' (fun k hk => hd' o (List.mem_of_getElem? ho') k hk) a.defers v
        have hput : Act.put ⟨T, a.defers⟩ o.dst v = ⟨(Act.put ⟨T, a.defers⟩ o.dst v).tmps, a.defers⟩ := by
          unfold Act.put
          cases o.dst <;> rfl
        rw [hput]
        refine ih (listed.setIfInBounds i true) (upd L i true) (upd u i v) _ w' ?_ (by simpa using hs) ?_ hF' hΦ'
        · have hb' : listed[i]? = some false := by
            have hlt' : i < listed.size := by omega
            rw [Array.getElem?_eq_getElem hlt']
            simpa [Array.getD, hlt'] using hun
          have := left_set listed.toList i (by simpa using hb')
          unfold left at *
          simp only [Array.toList_setIfInBounds]
          omega
        · intro j hj
          by_cases hji : j = i
          · subst hji
            have hlt' : j < listed.size := by omega
            simp [Array.getD, hlt']
          · rw [upd_ne _ _ hji, hL j hj, getD_set_ne true (Ne.symm hji)]
  have hstart := key l.length (Array.replicate l.length false) (fun _ => false) (fun _ => undef) a.tmps { w with drawn := w.drawn + 1 }
    (by unfold left; simp [List.countP_replicate]) (by simp) (fun j hj => by simp [Array.getD, hj]) ⟨rfl, fun _ _ => rfl, fun _ _ _ _ _ h => (by cases h), fun _ _ _ _ _ _ => rfl⟩ h0
  simpa using hstart
end

def depsOf (o : Oper) : List Nat := (o.after.toList.filter fun e => Region.binds .any e).map (·.on)
theorem wanted_none {o : Oper} {y : Nat → Option Bool} (h : o.guard = none) : Region.wanted o y = true := by
  unfold Region.wanted; rw [h]
theorem wanted_guard {ops : Array Oper} {o : Oper} {T : Array Value} {j d : Nat} {b : Bool} (hg : o.guard = some (j, b)) (hd : ((ops[j]?).bind (·.dst)) = some d) (hT : T[d]? = some (.bool b)) :
    Region.wanted o (yielded ops T) = true := by
  unfold Region.wanted yielded
  rw [hg]
  simp only [hd, Option.bind_some, hT]
  simp
theorem unwanted_guard {ops : Array Oper} {o : Oper} {T : Array Value} {j d : Nat} {b : Bool} (hg : o.guard = some (j, !b)) (hd : ((ops[j]?).bind (·.dst)) = some d) (hT : T[d]? = some (.bool b)) :
    ¬ Region.wanted o (yielded ops T) = true := by
  unfold Region.wanted yielded
  rw [hg]
  simp only [hd, Option.bind_some, hT]
  cases b <;> simp

def reachB (l : List Oper) : Nat → List Nat → List Nat
  | 0, s => s
  | n + 1, s => reachB l n (s ++ s.flatMap fun i => ((l[i]?).map depsOf).getD []).eraseDups
theorem reach_ok {l : List Oper} {L : Nat → Bool} (hc : ∀ i o, l[i]? = some o → L i = true → ∀ j, (depsOf o).contains j = true → L j = true) : ∀ (n : Nat) (s : List Nat), (∀ i ∈ s, L i = true) → ∀ j ∈ reachB l n s, L j = true
  | 0, _, h => h
  | n + 1, s, h => reach_ok hc n _ fun i hi => by
    rw [List.mem_eraseDups] at hi
    rcases List.mem_append.1 hi with hi | hi
    · exact h i hi
    · obtain ⟨k, hk, hi⟩ := List.mem_flatMap.1 hi
      cases ho : l[k]? with
      | none => rw [ho] at hi; simp at hi
      | some o =>
        rw [ho] at hi
        exact hc k o ho (h k hk) i (by simpa using hi)

/-- What an operation may look at: the values of those ahead of it; what the region does not write. -/
structure KnG (l : List Oper) (T0 : Array Value) (V : Nat → Option Value) (L : Nat → Bool) (u : Nat → Value) (o : Oper) (T : Array Value) : Prop where
  dep : ∀ k d, (depsOf o).contains k = true → ((l[k]?).bind (·.dst)) = some d → T[d]? = some (u k) ∧ L k = true ∧ ∀ x, V k = some x → u k = x
  out : ∀ k, (l.all fun o => o.dst != some k) = true → T[k]? = T0[k]?
  yet : ∀ j k, ((l[j]?).bind (·.dst)) = some k → L j = false → T[k]? = T0[k]?
theorem KnG.later {l : List Oper} {T0 : Array Value} {V : Nat → Option Value} {L : Nat → Bool} {u : Nat → Value} {o : Oper} {T : Array Value} (h : KnG l T0 V L u o T) (j k : Nat) {v : Value}
    (h1 : ((l[j]?).bind (·.dst)) = some k) (h2 : L j = false) (h3 : T0[k]? = some v) : T[k]? = some v := (h.yet j k h1 h2).trans h3
theorem KnG.val {l : List Oper} {T0 : Array Value} {V : Nat → Option Value} {L : Nat → Bool} {u : Nat → Value} {o : Oper} {T : Array Value} (h : KnG l T0 V L u o T) (k d : Nat) {v : Value}
    (h1 : (depsOf o).contains k = true) (h2 : ((l[k]?).bind (·.dst)) = some d) (h3 : V k = some v) : T[d]? = some v := by
  obtain ⟨hx, _, hi⟩ := h.dep k d h1 h2
  rw [hx, hi v h3]
theorem KnG.any {l : List Oper} {T0 : Array Value} {V : Nat → Option Value} {L : Nat → Bool} {u : Nat → Value} {o : Oper} {T : Array Value} (h : KnG l T0 V L u o T) (k d : Nat)
    (h1 : (depsOf o).contains k = true) (h2 : ((l[k]?).bind (·.dst)) = some d) : T[d]? = some (u k) ∧ L k = true := ⟨(h.dep k d h1 h2).1, (h.dep k d h1 h2).2.1⟩
theorem KnG.old {l : List Oper} {T0 : Array Value} {V : Nat → Option Value} {L : Nat → Bool} {u : Nat → Value} {o : Oper} {T : Array Value} (h : KnG l T0 V L u o T) (k : Nat) {v : Value}
    (h1 : (l.all fun o => o.dst != some k) = true) (h2 : T0[k]? = some v) : T[k]? = some v := (h.out k h1).trans h2

/-- Each operation by itself; S knows which have come up, and their values. -/
def EachG (P : Program) (l : List Oper) (Q : Exit → Act → World → Prop) (ds : List Deferred) (T0 : Array Value) (S : (Nat → Bool) → (Nat → Value) → World → Prop) (V : Nat → Option Value) : List Oper → Nat → Prop
  | [], _ => True
  | o :: rest, i => (∀ L u T w, L i = false → (∀ z, (reachB l l.length [z]).contains i = true → L z = false) → S L u w → KnG l T0 V L u o T →
      ∀ K : Act → World → Prop, (∀ v w', S (upd L i true) (upd u i v) w' → (∀ x, V i = some x → v = x) → K (Act.put ⟨T, ds⟩ o.dst v) w') → One P l.toArray Q o T ds w K) ∧ EachG P l Q ds T0 S V rest (i + 1)

section
variable {P : Program} {l : List Oper} {Q : Exit → Act → World → Prop} {ds : List Deferred} {T0 : Array Value} {S : (Nat → Bool) → (Nat → Value) → World → Prop} {V : Nat → Option Value} {o : Oper} {rest : List Oper} {i : Nat}
theorem EachG.nil : EachG P l Q ds T0 S V [] i := trivial
theorem EachG.plain (hg : o.guard = none)
    (h1 : ∀ L u T w, L i = false → (∀ z, (reachB l l.length [z]).contains i = true → L z = false) → S L u w → KnG l T0 V L u o T → ∀ K : Act → World → Prop, (∀ v w', S (upd L i true) (upd u i v) w' → (∀ x, V i = some x → v = x) → K (Act.put ⟨T, ds⟩ o.dst v) w') → Oper.wp P o ⟨T, ds⟩ w K Q)
    (h2 : EachG P l Q ds T0 S V rest (i + 1)) : EachG P l Q ds T0 S V (o :: rest) i :=
  ⟨fun L u T w hL hz hS hk K hK => by unfold One; rw [if_pos (wanted_none hg)]; exact h1 L u T w hL hz hS hk K hK, h2⟩
theorem EachG.guarded (j d : Nat) (b : Bool) (hg : o.guard = some (j, b)) (hc : (depsOf o).contains j = true) (hd : ((l[j]?).bind (·.dst)) = some d) (hv : V j = some (.bool b))
    (h1 : ∀ L u T w, L i = false → (∀ z, (reachB l l.length [z]).contains i = true → L z = false) → S L u w → KnG l T0 V L u o T → ∀ K : Act → World → Prop, (∀ v w', S (upd L i true) (upd u i v) w' → (∀ x, V i = some x → v = x) → K (Act.put ⟨T, ds⟩ o.dst v) w') → Oper.wp P o ⟨T, ds⟩ w K Q)
    (h2 : EachG P l Q ds T0 S V rest (i + 1)) : EachG P l Q ds T0 S V (o :: rest) i :=
  ⟨fun L u T w hL hz hS hk K hK => by
    unfold One
    rw [if_pos (wanted_guard hg (by simpa using hd) (hk.val j d hc hd hv))]
    exact h1 L u T w hL hz hS hk K hK, h2⟩
theorem EachG.passed (j d : Nat) (b : Bool) (hg : o.guard = some (j, !b)) (hc : (depsOf o).contains j = true) (hd : ((l[j]?).bind (·.dst)) = some d) (hv : V j = some (.bool b)) (hi : V i = some undef)
    (hs : ∀ L u w, S L u w → S (upd L i true) (upd u i undef) w)
    (h2 : EachG P l Q ds T0 S V rest (i + 1)) : EachG P l Q ds T0 S V (o :: rest) i :=
  ⟨fun L u T w _ _ hS hk K hK => by
    unfold One
    rw [if_neg (unwanted_guard hg (by simpa using hd) (hk.val j d hc hd hv))]
    exact hK _ w (hs L u w hS) fun x hx => by rw [hi] at hx; exact Option.some.inj hx, h2⟩
end

/-- What is known while the region goes on. -/
structure Sto (l : List Oper) (S : (Nat → Bool) → (Nat → Value) → World → Prop) (V : Nat → Option Value) (L : Nat → Bool) (u : Nat → Value) (w : World) : Prop where
  shut : ∀ i o, l[i]? = some o → L i = true → ∀ j, (depsOf o).contains j = true → L j = true
  here : S L u w
  vals : ∀ j, L j = true → ∀ x, V j = some x → u j = x

theorem deps_done {o : Oper} {L : Nat → Bool} (hd : (o.after.all fun e => !Region.binds .any e || L e.on) = true) (k : Nat) (h : (depsOf o).contains k = true) : L k = true := by
  simp only [depsOf, List.contains_iff_mem, List.mem_map, List.mem_filter, Array.mem_toList_iff] at h
  obtain ⟨e, ⟨he, hb⟩, rfl⟩ := h
  have := (Array.all_eq_true_iff_forall_mem.1 hd) e he
  rw [hb] at this
  simpa using this

theorem EachG.each {P : Program} {l : List Oper} {Q : Exit → Act → World → Prop} {ds : List Deferred} {T0 : Array Value} {S : (Nat → Bool) → (Nat → Value) → World → Prop} {V : Nat → Option Value} :
    ∀ (r : List Oper) (i : Nat), (∀ j o, r[j]? = some o → l[i + j]? = some o) → EachG P l Q ds T0 S V r i → Each P l.toArray Q ds T0 (Sto l S V) r i
  | [], _, _, _ => trivial
  | o :: rest, i, hl, h => by
    refine ⟨fun L u T w hL hd hF hΦ K hK => ?_, EachG.each rest (i + 1) (fun j o' hj => by rw [show i + 1 + j = i + (j + 1) by omega]; exact hl (j + 1) o' (by simpa using hj)) h.2⟩
    have hi : l[i]? = some o := by have := hl 0 o (by simp); simpa using this
    have hLz : ∀ z, (reachB l l.length [z]).contains i = true → L z = false := fun z hz => by
      cases hb : L z with
      | false => rfl
      | true =>
        have hr := reach_ok hΦ.shut l.length [z] (fun k hk => by rw [List.mem_singleton.1 hk]; exact hb) i (by simpa using hz)
        rw [hL] at hr
        cases hr
    have hshut : ∀ k o', l[k]? = some o' → upd L i true k = true → ∀ j, (depsOf o').contains j = true → upd L i true j = true := by
      intro k o' hk hLk j hj
      by_cases hji : j = i
      · subst hji; exact upd_same _ _ _
      · rw [upd_ne _ _ hji]
        by_cases hki : k = i
        · subst hki
          rw [hi] at hk
          obtain rfl := Option.some.inj hk
          exact deps_done hd j hj
        · rw [upd_ne _ _ hki] at hLk
          exact hΦ.shut k o' hk hLk j hj
    refine h.1 L u T w hL hLz hΦ.here ⟨fun k d h1 h2 => ?_, fun k hk => hF.out k fun j o' hj he => ?_, fun j k h1 h2 => ?_⟩ K fun v w' hS hV => hK v w' ⟨hshut, hS, fun j hj x hx => ?_⟩
    · have hk := deps_done hd k h1
      obtain ⟨o', ho', hd'⟩ := Option.bind_eq_some_iff.1 h2
      exact ⟨hF.val k o' d (by simpa using ho') hd' hk, hk, hΦ.vals k hk⟩
    · have := List.all_eq_true.1 hk o' (List.mem_of_getElem? (by simpa using hj))
      rw [he] at this
      simp at this
    · obtain ⟨o', ho', hd'⟩ := Option.bind_eq_some_iff.1 h1
      exact hF.yet j o' k (by simpa using ho') hd' h2
    · by_cases hji : j = i
      · subst hji; rw [upd_same]; exact hV x hx
      · rw [upd_ne _ _ hji] at hj ⊢
        exact hΦ.vals j hj x hx

/-- **A region that draws its order, with what has come up in the condition.** -/
theorem wp_region_sto {P : Program} {Q : Exit → Act → World → Prop} {id : Nat} {l : List Oper} {a : Act} {w : World} (S : (Nat → Bool) → (Nat → Value) → World → Prop) (V : Nat → Option Value)
    (hm : P.follows .mixedOrders = true) (hap : apartB l = true)
    (hd : (l.all fun o => match o.dst with | none => true | some k => k < a.tmps.size) = true)
    (hready : (l.zipIdx.all fun oi => oi.1.after.all fun e => !Region.binds .any e || e.on < oi.2) = true)
    (h0 : S (fun _ => false) (fun _ => undef) { w with drawn := w.drawn + 1 })
    (hE : EachG P l Q a.defers a.tmps S V l 0)
    (hend : ∀ L u w', (∀ j, j < l.length → L j = true) → S L u w' → (∀ j, j < l.length → ∀ x, V j = some x → u j = x) → Q .normal (putAll l 0 u a) w') : (Code.region id l.toArray true).wp P Q a w :=
  wp_region_each (Sto l S V) hm hap hd hready ⟨fun _ _ _ h => (by cases h), h0, fun _ h => by cases h⟩ (hE.each l 0 (fun j o hj => by rw [Nat.zero_add]; exact hj))
    fun L u w' hL hΦ => hend L u w' hL hΦ.here fun j hj => hΦ.vals j (hL j hj)
end Go.Proofs.YtndgomocehfmgaaDoor.Reg2
/- The places of a set's bytes in their row (pure). -/
namespace Go.Proofs.YtndgomocehfmgaaDoor
open Go.RowKit

theorem byL_pre (p : Nat → Bool) (k : Nat) : ∀ n, ∃ r, byL p (k + n) = byL p k ++ r
  | 0 => ⟨[], by simp⟩
  | n + 1 => by
    obtain ⟨r, hr⟩ := byL_pre p k n
    rw [← Nat.add_assoc]
    by_cases h : p (k + n) = true
    · exact ⟨r ++ [((k + n : Nat) : Int)], by rw [byL_step p _ h, hr, List.append_assoc]⟩
    · have := byL_skip p (k + n) 1 (fun j hj => by have h0 : j = 0 := (by omega); subst h0; simpa using h)
      exact ⟨r, by rw [this, hr]⟩
/-- How many bytes stand ahead. -/
def idx (p : Nat → Bool) (k : Nat) : Nat := (byL p k).length
theorem idx_le (p : Nat → Bool) (k m : Nat) (h : k ≤ m) : idx p k ≤ idx p m := by
  obtain ⟨n, rfl⟩ : ∃ n, m = k + n := ⟨m - k, by omega⟩
  obtain ⟨r, hr⟩ := byL_pre p k n
  unfold idx
  rw [hr, List.length_append]
  omega
theorem idx_succ (p : Nat → Bool) (k : Nat) (h : p k = true) : idx p (k + 1) = idx p k + 1 := by
  unfold idx
  rw [byL_step p k h, List.length_append]
  rfl
theorem idx_skip (p : Nat → Bool) (k m : Nat) (h : k ≤ m) (hf : ∀ j, k ≤ j → j < m → p j = false) : idx p m = idx p k := by
  obtain ⟨n, rfl⟩ : ∃ n, m = k + n := ⟨m - k, by omega⟩
  unfold idx
  rw [byL_skip p k n (fun j hj => hf _ (by omega) (by omega))]
theorem byL_at (p : Nat → Bool) (c : Nat) (hc : c < 256) (h : p c = true) : (byL p 256)[idx p c]? = some (c : Int) := by
  obtain ⟨n, hn⟩ : ∃ n, 256 = (c + 1) + n := ⟨256 - (c + 1), by omega⟩
  obtain ⟨r, hr⟩ := byL_pre p (c + 1) n
  rw [hn, hr, byL_step p c h, List.append_assoc]
  unfold idx
  rw [List.getElem?_append_right (Nat.le_refl _), Nat.sub_self]
  rfl
/-- Behind k there is one more byte just if the row goes on. -/
theorem idx_more (p : Nat → Bool) (k : Nat) (hk : k ≤ 256) : idx p k < idx p 256 ↔ fst p k < 256 := by
  have hge := fst_ge p k
  have hle := fst_le p k hk
  have h1 := idx_skip p k (fst p k) hge (fun j h1 h2 => fst_miss p k j h1 h2)
  constructor
  · intro h
    rcases Nat.lt_or_ge (fst p k) 256 with h' | h'
    · exact h'
    · have e : fst p k = 256 := by omega
      rw [e] at h1
      omega
  · intro h
    have h2 := idx_succ p _ (fst_hit p k hk h)
    have h3 := idx_le p (fst p k + 1) 256 (by omega)
    omega
/-- Within a run the row counts. -/
theorem idx_run (p : Nat → Bool) (lo : Nat) : ∀ j, (∀ i, i < j → p (lo + i) = true) → idx p (lo + j) = idx p lo + j
  | 0, _ => rfl
  | j + 1, h => by
    have := idx_run p lo j (fun i hi => h i (by omega))
    rw [← Nat.add_assoc, idx_succ p _ (h j (by omega)), this]
    omega
theorem run_in (p : Nat → Bool) (lo i : Nat) (h : lo + i < fst (notP p) lo) : p (lo + i) = true := by
  have := fst_miss (notP p) lo (lo + i) (by omega) h
  simpa [notP] using this
/-- What the row holds at place j of the run that begins at lo, and whether the run goes on behind it. -/
theorem run_at (p : Nat → Bool) (lo j : Nat) (hlo : lo < 256) (hj : lo + j < fst (notP p) lo) : (byL p 256)[idx p lo + j]? = some ((lo + j : Nat) : Int) ∧ lo + j < 256 := by
  have hle := fst_le (notP p) lo (by omega)
  have h1 := idx_run p lo j (fun i hi => run_in p lo i (by omega))
  have h2 := byL_at p (lo + j) (by omega) (run_in p lo j hj)
  rw [h1] at h2
  exact ⟨h2, by omega⟩
theorem run_on (p : Nat → Bool) (lo j : Nat) (hlo : lo < 256) (hj : lo + j + 1 < fst (notP p) lo) : (byL p 256)[idx p lo + (j + 1)]? = some (((lo + j : Nat) : Int) + 1) ∧ idx p lo + (j + 1) < idx p 256 := by
  have h := run_at p lo (j + 1) hlo (by omega)
  refine ⟨by rw [h.1]; congr 1, ?_⟩
  have := (List.getElem?_eq_some_iff.1 h.1).1
  exact this
theorem run_off (p : Nat → Bool) (lo j : Nat) (hlo : lo < 256) (hj : lo + j + 1 = fst (notP p) lo) : ¬ idx p lo + (j + 1) < idx p 256 ∨ ∃ c : Nat, c < 256 ∧ (byL p 256)[idx p lo + (j + 1)]? = some (c : Int) ∧ c ≠ lo + j + 1 ∧ lo + j + 1 ≤ c := by
  have hle := fst_le (notP p) lo (by omega)
  have h1 := idx_run p lo (j + 1) (fun i hi => run_in p lo i (by omega))
  rw [← Nat.add_assoc] at h1
  by_cases hm : idx p (lo + j + 1) < idx p 256
  · right
    have hf := (idx_more p (lo + j + 1) (by omega)).1 hm
    have hge := fst_ge p (lo + j + 1)
    have h2 := byL_at p _ hf (fst_hit p _ (by omega) hf)
    rw [idx_skip p (lo + j + 1) _ hge (fun i h1 h2 => fst_miss p _ i h1 h2), h1] at h2
    refine ⟨_, hf, h2, fun e => ?_, hge⟩
    have h3 := fst_hit p (lo + j + 1) (by omega) hf
    rw [e, hj] at h3
    have h4 := fst_hit (notP p) lo (by omega) (by omega)
    simp [notP, h3] at h4
  · left
    omega
/-- Behind the run. -/
theorem idx_end (p : Nat → Bool) (lo : Nat) (_hlo : lo < 256) : idx p (fst (notP p) lo) = idx p lo + (fst (notP p) lo - lo) := by
  have hge := fst_ge (notP p) lo
  have h1 := idx_run p lo (fst (notP p) lo - lo) (fun i hi => run_in p lo i (by omega))
  rwa [show lo + (fst (notP p) lo - lo) = fst (notP p) lo by omega] at h1
theorem idx_fst (p : Nat → Bool) (k : Nat) : idx p (fst p k) = idx p k := idx_skip p k (fst p k) (fst_ge p k) (fun j h1 h2 => fst_miss p k j h1 h2)
theorem join_snoc (dn : List (List UInt8)) (x sep : List UInt8) : Lib.join (dn ++ [x]) sep = (if dn = [] then x else Lib.join dn sep ++ (sep ++ x)) := by
  cases dn with
  | nil => rw [if_pos rfl, List.nil_append, Lib.join_one]
  | cons y r =>
    rw [if_neg (by simp), List.cons_append, Lib.join_cons, Lib.join_cons, List.append_assoc]
    congr 1
    unfold Lib.joinTail
    simp
end Go.Proofs.YtndgomocehfmgaaDoor
/- The reference's Hex of one byte (gen_rhex.py). -/
namespace Go.Proofs.YtndgomocehfmgaaDoor
open Go.RowKit

theorem hex_idx (r : Nat) (hr : r < 16) (X : World) : (Instr.index 9 (.string ⟨#[48, 49, 50, 51, 52, 53, 54, 55, 56, 57, 97, 98, 99, 100, 101, 102]⟩) (.int .u8 (r : Nat))).run Tryd.prog X = .ok (.int .u8 (dch r)) X := by
  rcases (by omega : r = 0 ∨ r = 1 ∨ r = 2 ∨ r = 3 ∨ r = 4 ∨ r = 5 ∨ r = 6 ∨ r = 7 ∨ r = 8 ∨ r = 9 ∨ r = 10 ∨ r = 11 ∨ r = 12 ∨ r = 13 ∨ r = 14 ∨ r = 15) with rfl | rfl | rfl | rfl | rfl | rfl | rfl | rfl | rfl | rfl | rfl | rfl | rfl | rfl | rfl | rfl
  all_goals kernel_rfl
theorem u8_low (b : Nat) (hb : b < 256) : bits .and .u8 (b : Int) 15 = ((b % 16 : Nat) : Int) := by
  have h : ∀ b : Fin 256, bits .and .u8 (b.val : Int) 15 = ((b.val % 16 : Nat) : Int) := by decide +kernel
  exact h ⟨b, hb⟩
/-- The state within the region: the two digits are laid (7), appended (8). -/
structure Hx1 (w W : World) (q r : Nat) (d7 d8 d9 : Bool) (u7 u8 u9 : Value) (X : World) : Prop where
  bel : Below w.heap.size w X
  lit : d7 = true → d8 = false → ∃ g, u7 = .slice (some ⟨g, 0, none⟩) 2 2 ∧ X.heap[g]? = some (.cells #[.int .u8 (dch q), .int .u8 (dch r)] 5 (0, 0))
  new : d8 = true → X.ownsRow w.heap.size 5 1 u8 2 [.int .u8 (dch q), .int .u8 (dch r)]
  same : d9 = true → u9 = u8

set_option maxRecDepth 100000 in
set_option maxHeartbeats 8000000 in
theorem rhex_any (b : Nat) (hb : b < 256) (w : World) :
    Calls Tryd.prog 35 #[.string (ofBys [(b : Int)])] w fun e w' => e = .returned (.string ⟨(hex2 b).toArray⟩) ∧ Below w.heap.size w w' := by
  obtain ⟨i0, hi, hz0, hz1, hz2⟩ := info_parts byte_row
  have hsz : (ofBys [(b : Int)]).size = 1 := by rw [ofBys_size]; rfl
  obtain ⟨cap, W1, hcv, hsl, hb1⟩ := conv_sl w (ofBys [(b : Int)]) (by omega)
  rw [bys_ofBys (byt_of fun c hc => by rw [List.mem_singleton.1 hc]; omega)] at hsl
  obtain ⟨_, _, ⟨h0, _⟩ | ⟨x, o, c', hv, hc1, hc2, hrow⟩⟩ := hsl
  · cases h0
  simp only [Value.slice.injEq, Option.some.injEq, Addr.mk.injEq, and_true] at hv
  obtain ⟨⟨rfl, rfl⟩, hl1, rfl⟩ := hv
  have c0 : W1.cell? ⟨w.heap.size, 0, none⟩ = some (.int .u8 (b : Nat)) := by have := hrow 0 (by simp); simpa using this
  have HE : Hid ((⟨(hex2 b).toArray⟩ : ByteArray) = ofBys [dch (b / 16), dch (b % 16)]) := Lib.hid (by unfold hex2 hxd ofBys; rfl)
  have ha := u8_low b hb
  obtain ⟨q, hq⟩ : ∃ q, q = b / 16 := ⟨_, rfl⟩
  obtain ⟨r, hr⟩ : ∃ r, r = b % 16 := ⟨_, rfl⟩
  have hd : (b : Int) / 16 = (q : Int) := by omega
  rw [← hr] at ha
  rw [← hq, ← hr] at HE
  have hq16 : q < 16 := by omega
  have hr16 : r < 16 := by omega
  clear hq hr
  have h1 := hex_idx q hq16
  have h2 := hex_idx r hr16
  have HY : Hid (Byt [dch q, dch r]) := Lib.hid (byt_of fun c hc => by
    have a1 := dch_bd q hq16
    have a2 := dch_bd r hr16
    simp only [List.mem_cons, List.not_mem_nil, or_false] at hc
    rcases hc with rfl | rfl <;> omega)
  have HB1 := Lib.hid hb1
  rw [HE.out]
  clear hrow hb1 hc1 hc2
  generalize ofBys [(b : Int)] = sb at *
  go_enter Tryd.func35, Tryd.ntmps35
  go_wp2
  go_loopw [3, 9] (fun v i X => (i = .int .i64 0 ∧ v = .slice none 0 0 ∧ X = W1) ∨ (i = .int .i64 1 ∧ X.ownsRow w.heap.size 5 1 v 2 [.int .u8 (dch q), .int .u8 (dch r)] ∧ Below w.heap.size w X)) (fun _ i _ => 1 - (intOf i).toNat)
  case atStart => exact Or.inl ⟨rfl, rfl, rfl⟩
  case round =>
    rcases hrel with ⟨rfl, rfl, rfl⟩ | ⟨rfl, hown, hbel⟩
    · go_wp2_with fail
      refine Reg2.wp_region_sto (fun L u X => Hx1 w wr q r (L 7) (L 8) (L 9) (u 7) (u 8) (u 9) X) (fun j => ([some (.slice none 0 0), some (.int .u8 (b : Nat)), some (.int .u8 (q : Nat)), some (.int .u8 (dch q)), some (.int .u8 (b : Nat)), some (.int .u8 (r : Nat)), some (.int .u8 (dch r)), none, none, none] : List (Option Value)).getD j none) (by kernel_rfl) (by kernel_rfl) (by kernel_rfl) (by kernel_rfl) ?rs0 ?rsE ?rsZ
      case rs0 => exact ⟨HB1.out.drew, fun h => (by cases h), fun h => (by cases h), fun h => (by cases h)⟩
      case rsE =>
        refine Reg2.EachG.plain rfl (fun L u T X hL hz hS hk K hK => ?_) ?_
        · skip
          have g3 : T[3]? = some (.slice none 0 0) := hk.later 9 3 (by kernel_rfl) (hz 9 (by kernel_rfl)) rfl
          have hK := hK _ X hS (fun _ hx => Option.some.inj hx)
          clear hk hz hL
          go_simp
          exact hK
        refine Reg2.EachG.plain rfl (fun L u T X hL hz hS hk K hK => ?_) ?_
        · skip
          have g5 : T[5]? = some (.int .u8 (b : Nat)) := hk.old 5 (by kernel_rfl) rfl
          have hK := hK _ X hS (fun _ hx => Option.some.inj hx)
          clear hk hz hL
          go_simp
          exact hK
        refine Reg2.EachG.plain rfl (fun L u T X hL hz hS hk K hK => ?_) ?_
        · skip
          have g14 : T[14]? = some (.int .u8 (b : Nat)) := hk.val 1 14 (by kernel_rfl) (by kernel_rfl) rfl
          have hK := hK _ X hS (fun _ hx => Option.some.inj hx)
          clear hk hz hL
          go_simp
          exact hK
        refine Reg2.EachG.plain rfl (fun L u T X hL hz hS hk K hK => ?_) ?_
        · skip
          have g15 : T[15]? = some (.int .u8 (q : Nat)) := hk.val 2 15 (by kernel_rfl) (by kernel_rfl) rfl
          have hK := hK _ X hS (fun _ hx => Option.some.inj hx)
          clear hk hz hL
          go_simp
          exact hK
        refine Reg2.EachG.plain rfl (fun L u T X hL hz hS hk K hK => ?_) ?_
        · skip
          have g5 : T[5]? = some (.int .u8 (b : Nat)) := hk.old 5 (by kernel_rfl) rfl
          have hK := hK _ X hS (fun _ hx => Option.some.inj hx)
          clear hk hz hL
          go_simp
          exact hK
        refine Reg2.EachG.plain rfl (fun L u T X hL hz hS hk K hK => ?_) ?_
        · skip
          have g17 : T[17]? = some (.int .u8 (b : Nat)) := hk.val 4 17 (by kernel_rfl) (by kernel_rfl) rfl
          have hK := hK _ X hS (fun _ hx => Option.some.inj hx)
          clear hk hz hL
          go_simp
          exact hK
        refine Reg2.EachG.plain rfl (fun L u T X hL hz hS hk K hK => ?_) ?_
        · skip
          have g18 : T[18]? = some (.int .u8 (r : Nat)) := hk.val 5 18 (by kernel_rfl) (by kernel_rfl) rfl
          have hK := hK _ X hS (fun _ hx => Option.some.inj hx)
          clear hk hz hL
          go_simp
          exact hK
        refine Reg2.EachG.plain rfl (fun L u T X hL hz hS hk K hK => ?_) ?_
        · skip
          have g16 : T[16]? = some (.int .u8 (dch q)) := hk.val 3 16 (by kernel_rfl) (by kernel_rfl) rfl
          have g19 : T[19]? = some (.int .u8 (dch r)) := hk.val 6 19 (by kernel_rfl) (by kernel_rfl) rfl
          have hd8 : L 8 = false := hz 8 (by kernel_rfl)
          have hK := hK (.slice (some ⟨X.heap.size, 0, none⟩) 2 2) (X.alloc (.cells #[.int .u8 (dch q), .int .u8 (dch r)] 5)) ⟨hS.bel.alloc hS.bel.size _, fun _ _ => ⟨_, rfl, alloc_last X _⟩, fun h => (by rw [Reg2.upd_ne _ _ (by decide), hd8] at h; cases h), hS.same⟩ (fun _ hx => by cases hx)
          clear hk hz hL hd8 hS
          go_simp
          exact hK
        refine Reg2.EachG.plain rfl (fun L u T X hL hz hS hk K hK => ?_) ?_
        · skip
          have g13 : T[13]? = some (.slice none 0 0) := hk.val 0 13 (by kernel_rfl) (by kernel_rfl) rfl
          obtain ⟨g20, l20⟩ := hk.any 7 20 (by kernel_rfl) (by kernel_rfl)
          obtain ⟨g, e7, hg⟩ := hS.lit l20 hL
          rw [e7] at g20
          have hcl : ∀ j y, [Value.int .u8 (dch q), .int .u8 (dch r)][j]? = some y → X.cell? ((⟨g, 0, none⟩ : Addr).add j) = some y := news_of_blk (cs := [Value.int .u8 (dch q), .int .u8 (dch r)]) hg
          refine wp_append_own X (.tmp 13) (.tmp 20) 28 rfl w.heap.size 5 i0 (.int .u8 0) 1 1 Tryd.underlying28 hi hz0 hz1 hz2 rfl (by decide) (.slice none 0 0) 0 [] (by simp [Act.eval, g13]) (World.ownsRow_nil _ _ _ _) ⟨g, 0, none⟩ 2 2 [.int .u8 (dch q), .int .u8 (dch r)] (by simp [Act.eval, g20]) rfl hcl (by intro y hy; simp at hy; rcases hy with rfl | rfl <;> rfl) (by decide) (by decide) hS.bel.size ?_
          intro v' w' hown hgr _
          exact hK v' w' ⟨hS.bel.grown hgr hS.bel.size (fun k hk => by cases hk), fun _ h => (by rw [Reg2.upd_same] at h; cases h), fun _ => (by rw [Reg2.upd_same]; exact hown), fun h => (by rw [Reg2.upd_ne _ _ (by decide), hz 9 (by kernel_rfl)] at h; cases h)⟩ (fun _ hx => by cases hx)
        refine Reg2.EachG.plain rfl (fun L u T X hL hz hS hk K hK => ?_) ?_
        · skip
          obtain ⟨g21, l21⟩ := hk.any 8 21 (by kernel_rfl) (by kernel_rfl)
          have hK := hK (u 8) X ⟨hS.bel, hS.lit, hS.new, fun _ => (by rw [Reg2.upd_same, Reg2.upd_ne _ _ (by decide)])⟩ (fun _ hx => by cases hx)
          clear hk hz hL
          go_simp
          exact hK
        exact Reg2.EachG.nil
      case rsZ =>
        intro L u w1 hL hS hI
        have e0 : u 0 = .slice none 0 0 := hI 0 (by decide) _ rfl
        have e1 : u 1 = .int .u8 (b : Nat) := hI 1 (by decide) _ rfl
        have e2 : u 2 = .int .u8 (q : Nat) := hI 2 (by decide) _ rfl
        have e3 : u 3 = .int .u8 (dch q) := hI 3 (by decide) _ rfl
        have e4 : u 4 = .int .u8 (b : Nat) := hI 4 (by decide) _ rfl
        have e5 : u 5 = .int .u8 (r : Nat) := hI 5 (by decide) _ rfl
        have e6 : u 6 = .int .u8 (dch r) := hI 6 (by decide) _ rfl
        clear hI
        simp only [Reg2.putAll, Act.put, List.setIfInBounds_toArray, List.set_cons_succ, List.set_cons_zero, Nat.zero_add, Nat.reduceAdd, e0, e1, e2, e3, e4, e5, e6]
        clear e0 e1 e2 e3 e4 e5 e6
        have hn := hS.new (hL 8 (by decide))
        have hbe := hS.bel
        have he := hS.same (hL 9 (by decide))
        rw [he]
        have HE2 := Lib.hid (And.intro hn hbe)
        clear hS hL hn hbe he
        generalize u 8 = y8 at *
        generalize u 7 = y7 at *
        go_wp2
        exact ⟨Or.inr ⟨rfl, HE2.out.1, HE2.out.2⟩, by simp [intOf]⟩
    · obtain ⟨a0, cap0, rfl⟩ := own_shapeK hown
      have HSL := Lib.hid (slOwnedM (L := [dch q, dch r]) hown HY.out (by simp))
      have hcv2 := conv_string HSL.out
      have HBE := Lib.hid hbel
      clear hown hbel
      go_wp2
      go_ret
      exact ⟨rfl, HBE.out⟩
end Go.Proofs.YtndgomocehfmgaaDoor
/- The reference's Text (gen_rtext.py). -/
namespace Go.Proofs.YtndgomocehfmgaaDoor
open Go.RowKit

/-- The outer loop's state. -/
structure RtI (w : World) (p : Nat → Bool) (lv : Value) (k : Nat) (dn : List (List UInt8)) (X : World) : Prop where
  hk : k ≤ 256
  spl : dn ++ runsN p 257 k = runs p
  non : idx p k = 0 ↔ dn = []
  bel : Below w.heap.size w X
  sl : Sl X lv (byL p 256)
def outS (dn : List (List UInt8)) : ByteArray := ⟨(91 :: Lib.join dn [44]).toArray⟩
theorem outS_size {p : Nat → Bool} {k : Nat} {dn : List (List UInt8)} (h : dn ++ runsN p 257 k = runs p) : (outS dn).size ≤ 1537 := by
  have hl : dn.length ≤ 256 := by have h1 := congrArg List.length h; rw [List.length_append] at h1; have := (runs_len p).1; omega
  have h5 : ∀ x ∈ dn, x.length ≤ 5 := fun x hx => by
    have : x ∈ runs p := by rw [← h]; exact List.mem_append_left _ hx
    exact (runsN_len p 257 0 (by omega)).2 x this
  have h3 := lens_le dn 5 h5
  have : (Lib.join dn [44]).length ≤ 1536 := by
    cases dn with
    | nil => rw [Lib.join_nil]; simp
    | cons x r =>
      rw [Lib.join_length]
      simp only [List.length_cons, List.length_nil] at *
      omega
  unfold outS
  show (List.toArray _).size ≤ _
  simp
  omega
theorem ba_app (a b : List UInt8) : (⟨a.toArray⟩ : ByteArray) ++ ⟨b.toArray⟩ = ⟨(a ++ b).toArray⟩ := by apply ByteArray.ext; simp
theorem out_first (lo e : Nat) : (lo + 1 < e → outS [] ++ ⟨(hex2 lo).toArray⟩ ++ ((⟨#[45]⟩ : ByteArray) ++ ⟨(hex2 (e - 1)).toArray⟩) = outS [runT lo e]) ∧ (¬ lo + 1 < e → outS [] ++ ⟨(hex2 lo).toArray⟩ = outS [runT lo e]) := by
  refine ⟨fun h => ?_, fun h => ?_⟩
  · have e45 : (⟨#[45]⟩ : ByteArray) = ⟨[45].toArray⟩ := rfl
    unfold outS runT
    rw [if_pos h, Lib.join_one, Lib.join_nil, e45, ba_app, ba_app, ba_app]
    simp
  · unfold outS runT
    rw [if_neg h, Lib.join_one, Lib.join_nil, ba_app]
    simp
theorem out_next (dn : List (List UInt8)) (hd : dn ≠ []) (lo e : Nat) : (lo + 1 < e → outS dn ++ ⟨#[44]⟩ ++ ⟨(hex2 lo).toArray⟩ ++ ((⟨#[45]⟩ : ByteArray) ++ ⟨(hex2 (e - 1)).toArray⟩) = outS (dn ++ [runT lo e])) ∧ (¬ lo + 1 < e → outS dn ++ ⟨#[44]⟩ ++ ⟨(hex2 lo).toArray⟩ = outS (dn ++ [runT lo e])) := by
  have e45 : (⟨#[45]⟩ : ByteArray) = ⟨[45].toArray⟩ := rfl
  have e44 : (⟨#[44]⟩ : ByteArray) = ⟨[44].toArray⟩ := rfl
  refine ⟨fun h => ?_, fun h => ?_⟩
  · unfold outS
    rw [join_snoc, if_neg hd]
    unfold runT
    rw [if_pos h, e44, e45, ba_app, ba_app, ba_app, ba_app]
    simp
  · unfold outS
    rw [join_snoc, if_neg hd]
    unfold runT
    rw [if_neg h, e44, ba_app, ba_app]
    simp
theorem sl_one {X : World} {x o cap I : Nat} {c : Nat} (hc : X.cell? ⟨x, o + I, none⟩ = some (.int .u8 (c : Nat))) (hc2 : c < 256) (hI : I < cap) (hcm : cap ≤ 9223372036854775807) : Sl X (.slice (some ⟨x, o + I, none⟩) 1 (cap - I)) [(c : Int)] :=
  ⟨byt_of (fun z hz => by rw [List.mem_singleton.1 hz]; omega), by simp, Or.inr ⟨x, o + I, cap - I, rfl, by show 1 ≤ _; omega, by omega, fun i hi => by have h0 : i = 0 := (by simpa using hi); subst h0; simpa using hc⟩⟩

set_option maxRecDepth 100000 in
set_option maxHeartbeats 16000000 in
theorem rtext_any (p : Nat → Bool) (w : World) :
    Calls Tryd.prog 12 #[SV p] w fun e w' => e = .returned (.string (textS p)) ∧ Below w.heap.size w w' := by
  have HBY : ∀ (X : World), Hid (Calls Tryd.prog 34 #[.agg #[.int .u64 (sw p 0 : Nat), .int .u64 (sw p 1 : Nat), .int .u64 (sw p 2 : Nat), .int .u64 (sw p 3 : Nat)]] X fun e w' => ∃ v, e = .returned v ∧ w'.ownsRow X.heap.size 5 1 v (byL p 256).length ((byL p 256).map (Value.int .u8)) ∧ Below X.heap.size X w') := fun X => Lib.hid (rbytes_any p X)
  have HRH : ∀ (b : Nat) (X : World), b < 256 → Hid (Calls Tryd.prog 35 #[.string (ofBys [(b : Int)])] X fun e w' => e = .returned (.string ⟨(hex2 b).toArray⟩) ∧ Below X.heap.size X w') := fun b X hb => Lib.hid (rhex_any b hb X)
  have HRHH := Lib.hid HRH
  clear HRH
  unfold SV
  go_enter Tryd.func12, Tryd.ntmps12
  go_wp2_with fail
  refine (HBY _).out.mono ?_
  rintro e w1 ⟨lv, rfl, hown, hb1⟩
  have hbl := byL_len p 256
  have hB1 := ((Below.refl w.heap.size w).alloc (Nat.le_refl _) (.cells #[.int .u64 (sw p 0 : Nat), .int .u64 (sw p 1 : Nat), .int .u64 (sw p 2 : Nat), .int .u64 (sw p 3 : Nat)] 24)).trans (hb1.mono (by simp))
  have hs1 := slOwnedM hown (byL_byt p 256 (Nat.le_refl _)) (by omega)
  have HI0 : Hid (RtI w p lv 0 [] w1) := Lib.hid ⟨by omega, rfl, ⟨fun _ => rfl, fun _ => rfl⟩, hB1, hs1⟩
  obtain ⟨va, vcap, hlv⟩ := own_shapeK hown
  obtain ⟨n, hn⟩ : ∃ n, n = idx p 256 := ⟨_, rfl⟩
  have HN := Lib.hid hn
  have hn2 : n = (byL p 256).length := hn
  rw [← hn2] at hlv hbl
  clear hn hn2 hs1 hB1 hb1 hown
  subst hlv
  go_wp2_with fail
  go_loopw [4, 5] (fun so i X => ∃ k dn, so = .string (outS dn) ∧ i = .int .i64 (idx p k : Nat) ∧ RtI w p (.slice va n vcap) k dn X) (fun _ i _ => n - (intOf i).toNat)
  case atStart => exact ⟨0, [], rfl, rfl, HI0.out⟩
  case round =>
    obtain ⟨k, dn, rfl, rfl, hI⟩ := hrel
    have hos := outS_size hI.spl
    have hidx := idx_le p k 256 hI.hk
    have hmo := idx_more p k hI.hk
    rw [← HN.out] at hidx hmo
    have HI := Lib.hid hI
    clear hI
    by_cases hlt : idx p k < n
    · have hlo := hmo.1 hlt
      have hge := fst_ge p k
      have hgt := end_gt p _ hlo (fst_hit p k HI.out.hk hlo)
      have hle := fst_le (notP p) (fst p k) (by omega)
      have HIF : Hid (idx p (fst p k) = idx p k) := Lib.hid (idx_fst p k)
      have HST : Hid (runsN p 257 k = runT (fst p k) (fst (notP p) (fst p k)) :: runsN p 257 (fst (notP p) (fst p k))) := Lib.hid (runsN_step p k HI.out.hk hlo)
      have HON := Lib.hid (fun j => run_on p (fst p k) j hlo)
      have HOF := Lib.hid (fun j => run_off p (fst p k) j hlo)
      have HAT := Lib.hid (fun j => run_at p (fst p k) j hlo)
      have HEN : Hid (idx p (fst (notP p) (fst p k)) = idx p (fst p k) + (fst (notP p) (fst p k) - fst p k)) := Lib.hid (idx_end p (fst p k) hlo)
      rw [HIF.out, ← HN.out] at HON HOF
      rw [HIF.out] at HAT HEN
      have HO1 := Lib.hid (out_first (fst p k) (fst (notP p) (fst p k)))
      have HO2 := Lib.hid (fun hd => out_next dn hd (fst p k) (fst (notP p) (fst p k)))
      have hnon := HI.out.non
      generalize fst (notP p) (fst p k) = e at *
      generalize fst p k = lo at *
      generalize idx p k = I at *
      obtain ⟨_, _, ⟨h0, _⟩ | ⟨x, o, c', hv, hc1, hc2, hrow⟩⟩ := HI.out.sl
      · exfalso; have := congrArg List.length h0; have h2 : n = (byL p 256).length := HN.out; rw [← h2] at this; simp at this; omega
      simp only [Value.slice.injEq] at hv
      obtain ⟨rfl, hnl, rfl⟩ := hv
      have HC : ∀ j (c : Nat), (byL p 256)[j]? = some (c : Int) → wr.cell? ⟨x, o + j, none⟩ = some (.int .u8 (c : Nat)) := fun j c hj => by
        have hjl := (List.getElem?_eq_some_iff.1 hj).1
        rw [hrow j hjl, List.getD_eq_getElem?_getD, hj]
        rfl
      have HCH := Lib.hid HC
      rw [← hnl] at hc1
      clear HC hrow hnl hmo
      generalize wr = W0 at *
      go_wp2_with fail
      go_loopw [6] (fun kk X => ∃ (q0 : Nat) (j : Nat), kk = .int .i64 (q0 : Nat) ∧ Hid (q0 = I + j) ∧ lo + j < e ∧ q0 < n ∧ Hid (Below W0.heap.size W0 X)) (fun kk _ => n - (intOf kk).toNat)
      case atStart => exact ⟨I, 0, rfl, Lib.hid rfl, by omega, hlt, Lib.hid (Below.refl _ _)⟩
      case round =>
        obtain ⟨q0, j, rfl, HKJ, hje, hKn, HWX⟩ := hrel
        have hIK : I ≤ q0 := by rw [HKJ.out]; omega
        have HCX : Hid (∀ (z : Nat) (y : Value), W0.cell? ⟨x, o + z, none⟩ = some y → wr.cell? ⟨x, o + z, none⟩ = some y) := Lib.hid fun z y hy => (HWX.out.cell (p := ⟨x, o + z, none⟩) (World.block_lt_of_cell? _ _ hy)).trans hy
        have hc0 : wr.cell? ⟨x, o + q0, none⟩ = some (.int .u8 ((lo + j : Nat) : Int)) := HCX.out _ _ (HCH.out q0 (lo + j) (by rw [HKJ.out]; exact (HAT.out j hje).1))
        have hcI : wr.cell? ⟨x, o + I, none⟩ = some (.int .u8 (lo : Nat)) := HCX.out _ _ (HCH.out I lo (by have := (HAT.out 0 (by omega)).1; simpa using this))
        have HCI := Lib.hid hcI
        have HC0 := Lib.hid hc0
        have hw1 : IntKind.i64.wrap ((q0 : Int) + 1) = (q0 : Int) + 1 := by rw [IntKind.wrap_i64]; omega
        clear hcI
        by_cases hon : lo + j + 1 < e
        · have hno := HON.out j hon
          have hcn : wr.cell? ⟨x, o + (q0 + 1), none⟩ = some (.int .u8 ((lo + j + 1 : Nat) : Int)) := HCX.out _ _ (HCH.out (q0 + 1) (lo + j + 1) (by rw [HKJ.out, Nat.add_assoc I j 1, hno.1]; congr 1))
          have hn2 : (q0 : Int) + 1 < (n : Int) := by have := hno.2; have h2 := HKJ.out; omega
          have hd256 : lo + j + 1 < 256 := by omega
          obtain ⟨d0, hd0⟩ : ∃ d0, d0 = lo + j := ⟨_, rfl⟩
          obtain ⟨d1, hd1⟩ : ∃ d1, d1 = lo + j + 1 := ⟨_, rfl⟩
          obtain ⟨d0s, hd0s⟩ : ∃ d0s : Int, d0s = IntKind.u8.wrap ((d0 : Int) + 1) := ⟨_, rfl⟩
          have heq : ((d1 : Int) == d0s) = true := by rw [hd0s, IntKind.wrap_u8]; simp; omega
          rw [← hd0] at hc0
          rw [← hd1] at hcn
          have hdw : IntKind.u8.wrap ((d0 : Int) + 1) = d0s := hd0s.symm
          have hdl : d0 < 255 := by omega
          clear hno hd0 hd1 hd0s
          go_wp2_with fail
          refine Reg.wp_region_vals (fun X => Below wr.heap.size wr X) (fun j => ([some (.int .i64 (q0 : Nat)), some (.int .i64 ((q0 : Int) + 1)), some (.slice (some ⟨x, o, none⟩) n vcap), some (.int .i64 (n : Nat)), some (.bool true), some (.bool true), some (.slice (some ⟨x, o, none⟩) n vcap), some (.int .i64 (q0 : Nat)), some (.int .i64 ((q0 : Int) + 1)), some (.pointer (some ⟨x, o + (q0 + 1), none⟩)), some (.int .u8 (d1 : Nat)), some (.slice (some ⟨x, o, none⟩) n vcap), some (.int .i64 (q0 : Nat)), some (.pointer (some ⟨x, o + q0, none⟩)), some (.int .u8 (d0 : Nat)), some (.int .u8 (d0s : Int)), some (.bool true), some (.bool true)] : List (Option Value)).getD j none) (fun _ _ _ => True) (by kernel_rfl) (by kernel_rfl) (by kernel_rfl) (by kernel_rfl) ?rs0 ?rsE ?rsZ
          case rs0 => exact (Below.refl _ _).drew
          case rsE =>
            refine Reg.EachV.plain rfl (fun T X hS hk K hK => ?_) ?_
            · skip
              have g6 : T[6]? = some (.int .i64 (q0 : Nat)) := hk.old 6 (by kernel_rfl) rfl
              have hK := hK _ X hS (Reg.Is.of_val rfl) (fun _ _ _ h => h)
              clear hk
              go_simp
              exact hK
            refine Reg.EachV.plain rfl (fun T X hS hk K hK => ?_) ?_
            · skip
              have g16 : T[16]? = some (.int .i64 (q0 : Nat)) := hk.val 0 16 (by kernel_rfl) (by kernel_rfl) rfl
              have hK := hK _ X hS (Reg.Is.of_val rfl) (fun _ _ _ h => h)
              clear hk
              go_simp
              exact hK
            refine Reg.EachV.plain rfl (fun T X hS hk K hK => ?_) ?_
            · skip
              have g3 : T[3]? = some (.slice (some ⟨x, o, none⟩) n vcap) := hk.old 3 (by kernel_rfl) rfl
              have hK := hK _ X hS (Reg.Is.of_val rfl) (fun _ _ _ h => h)
              clear hk
              go_simp
              exact hK
            refine Reg.EachV.plain rfl (fun T X hS hk K hK => ?_) ?_
            · skip
              have g18 : T[18]? = some (.slice (some ⟨x, o, none⟩) n vcap) := hk.val 2 18 (by kernel_rfl) (by kernel_rfl) rfl
              have hK := hK _ X hS (Reg.Is.of_val rfl) (fun _ _ _ h => h)
              clear hk
              go_simp
              exact hK
            refine Reg.EachV.plain rfl (fun T X hS hk K hK => ?_) ?_
            · skip
              have g17 : T[17]? = some (.int .i64 ((q0 : Int) + 1)) := hk.val 1 17 (by kernel_rfl) (by kernel_rfl) rfl
              have g19 : T[19]? = some (.int .i64 (n : Nat)) := hk.val 3 19 (by kernel_rfl) (by kernel_rfl) rfl
              have hK := hK _ X hS (Reg.Is.of_val rfl) (fun _ _ _ h => h)
              clear hk
              go_simp
              exact hK
            refine Reg.EachV.plain rfl (fun T X hS hk K hK => ?_) ?_
            · skip
              have g20 : T[20]? = some (.bool true) := hk.val 4 20 (by kernel_rfl) (by kernel_rfl) rfl
              have hK := hK _ X hS (Reg.Is.of_val rfl) (fun _ _ _ h => h)
              clear hk
              go_simp
              exact hK
            refine Reg.EachV.guarded 5 21 true rfl (by kernel_rfl) (by kernel_rfl) rfl (fun T X hS hk K hK => ?_) ?_
            · skip
              have g3 : T[3]? = some (.slice (some ⟨x, o, none⟩) n vcap) := hk.old 3 (by kernel_rfl) rfl
              have hK := hK _ X hS (Reg.Is.of_val rfl) (fun _ _ _ h => h)
              clear hk
              go_simp
              exact hK
            refine Reg.EachV.guarded 5 21 true rfl (by kernel_rfl) (by kernel_rfl) rfl (fun T X hS hk K hK => ?_) ?_
            · skip
              have g6 : T[6]? = some (.int .i64 (q0 : Nat)) := hk.old 6 (by kernel_rfl) rfl
              have hK := hK _ X hS (Reg.Is.of_val rfl) (fun _ _ _ h => h)
              clear hk
              go_simp
              exact hK
            refine Reg.EachV.guarded 5 21 true rfl (by kernel_rfl) (by kernel_rfl) rfl (fun T X hS hk K hK => ?_) ?_
            · skip
              have g23 : T[23]? = some (.int .i64 (q0 : Nat)) := hk.val 7 23 (by kernel_rfl) (by kernel_rfl) rfl
              have hK := hK _ X hS (Reg.Is.of_val rfl) (fun _ _ _ h => h)
              clear hk
              go_simp
              exact hK
            refine Reg.EachV.guarded 5 21 true rfl (by kernel_rfl) (by kernel_rfl) rfl (fun T X hS hk K hK => ?_) ?_
            · skip
              have g22 : T[22]? = some (.slice (some ⟨x, o, none⟩) n vcap) := hk.val 6 22 (by kernel_rfl) (by kernel_rfl) rfl
              have g24 : T[24]? = some (.int .i64 ((q0 : Int) + 1)) := hk.val 8 24 (by kernel_rfl) (by kernel_rfl) rfl
              have hK := hK _ X hS (Reg.Is.of_val rfl) (fun _ _ _ h => h)
              clear hk
              go_simp
              exact hK
            refine Reg.EachV.guarded 5 21 true rfl (by kernel_rfl) (by kernel_rfl) rfl (fun T X hS hk K hK => ?_) ?_
            · skip
              have g25 : T[25]? = some (.pointer (some ⟨x, o + (q0 + 1), none⟩)) := hk.val 9 25 (by kernel_rfl) (by kernel_rfl) rfl
              have hcl := (hS.cell (p := ⟨x, o + (q0 + 1), none⟩) (World.block_lt_of_cell? _ _ hcn)).trans hcn
              have hK := hK _ X hS (Reg.Is.of_val rfl) (fun _ _ _ h => h)
              clear hk
              go_simp
              exact hK
            refine Reg.EachV.guarded 5 21 true rfl (by kernel_rfl) (by kernel_rfl) rfl (fun T X hS hk K hK => ?_) ?_
            · skip
              have g3 : T[3]? = some (.slice (some ⟨x, o, none⟩) n vcap) := hk.old 3 (by kernel_rfl) rfl
              have hK := hK _ X hS (Reg.Is.of_val rfl) (fun _ _ _ h => h)
              clear hk
              go_simp
              exact hK
            refine Reg.EachV.guarded 5 21 true rfl (by kernel_rfl) (by kernel_rfl) rfl (fun T X hS hk K hK => ?_) ?_
            · skip
              have g6 : T[6]? = some (.int .i64 (q0 : Nat)) := hk.old 6 (by kernel_rfl) rfl
              have hK := hK _ X hS (Reg.Is.of_val rfl) (fun _ _ _ h => h)
              clear hk
              go_simp
              exact hK
            refine Reg.EachV.guarded 5 21 true rfl (by kernel_rfl) (by kernel_rfl) rfl (fun T X hS hk K hK => ?_) ?_
            · skip
              have g27 : T[27]? = some (.slice (some ⟨x, o, none⟩) n vcap) := hk.val 11 27 (by kernel_rfl) (by kernel_rfl) rfl
              have g28 : T[28]? = some (.int .i64 (q0 : Nat)) := hk.val 12 28 (by kernel_rfl) (by kernel_rfl) rfl
              have hK := hK _ X hS (Reg.Is.of_val rfl) (fun _ _ _ h => h)
              clear hk
              go_simp
              exact hK
            refine Reg.EachV.guarded 5 21 true rfl (by kernel_rfl) (by kernel_rfl) rfl (fun T X hS hk K hK => ?_) ?_
            · skip
              have g29 : T[29]? = some (.pointer (some ⟨x, o + q0, none⟩)) := hk.val 13 29 (by kernel_rfl) (by kernel_rfl) rfl
              have hcl := (hS.cell (p := ⟨x, o + q0, none⟩) (World.block_lt_of_cell? _ _ hc0)).trans hc0
              have hK := hK _ X hS (Reg.Is.of_val rfl) (fun _ _ _ h => h)
              clear hk
              go_simp
              exact hK
            refine Reg.EachV.guarded 5 21 true rfl (by kernel_rfl) (by kernel_rfl) rfl (fun T X hS hk K hK => ?_) ?_
            · skip
              have g30 : T[30]? = some (.int .u8 (d0 : Nat)) := hk.val 14 30 (by kernel_rfl) (by kernel_rfl) rfl
              have hK := hK _ X hS (Reg.Is.of_val rfl) (fun _ _ _ h => h)
              clear hk
              go_simp
              exact hK
            refine Reg.EachV.guarded 5 21 true rfl (by kernel_rfl) (by kernel_rfl) rfl (fun T X hS hk K hK => ?_) ?_
            · skip
              have g26 : T[26]? = some (.int .u8 (d1 : Nat)) := hk.val 10 26 (by kernel_rfl) (by kernel_rfl) rfl
              have g31 : T[31]? = some (.int .u8 (d0s : Int)) := hk.val 15 31 (by kernel_rfl) (by kernel_rfl) rfl
              have hK := hK _ X hS (Reg.Is.of_val rfl) (fun _ _ _ h => h)
              clear hk
              go_simp
              exact hK
            refine Reg.EachV.plain rfl (fun T X hS hk K hK => ?_) ?_
            · skip
              have g21 : T[21]? = some (.bool true) := hk.val 5 21 (by kernel_rfl) (by kernel_rfl) rfl
              have g32 : T[32]? = some (.bool true) := hk.val 16 32 (by kernel_rfl) (by kernel_rfl) rfl
              have hK := hK _ X hS (Reg.Is.of_val rfl) (fun _ _ _ h => h)
              clear hk
              go_simp
              exact hK
            exact Reg.EachV.nil
          case rsZ =>
            intro u w2 hS hI
            have e0 : u 0 = .int .i64 (q0 : Nat) := (hI 0 (by decide)).val rfl
            have e1 : u 1 = .int .i64 ((q0 : Int) + 1) := (hI 1 (by decide)).val rfl
            have e2 : u 2 = .slice (some ⟨x, o, none⟩) n vcap := (hI 2 (by decide)).val rfl
            have e3 : u 3 = .int .i64 (n : Nat) := (hI 3 (by decide)).val rfl
            have e4 : u 4 = .bool true := (hI 4 (by decide)).val rfl
            have e5 : u 5 = .bool true := (hI 5 (by decide)).val rfl
            have e6 : u 6 = .slice (some ⟨x, o, none⟩) n vcap := (hI 6 (by decide)).val rfl
            have e7 : u 7 = .int .i64 (q0 : Nat) := (hI 7 (by decide)).val rfl
            have e8 : u 8 = .int .i64 ((q0 : Int) + 1) := (hI 8 (by decide)).val rfl
            have e9 : u 9 = .pointer (some ⟨x, o + (q0 + 1), none⟩) := (hI 9 (by decide)).val rfl
            have e10 : u 10 = .int .u8 (d1 : Nat) := (hI 10 (by decide)).val rfl
            have e11 : u 11 = .slice (some ⟨x, o, none⟩) n vcap := (hI 11 (by decide)).val rfl
            have e12 : u 12 = .int .i64 (q0 : Nat) := (hI 12 (by decide)).val rfl
            have e13 : u 13 = .pointer (some ⟨x, o + q0, none⟩) := (hI 13 (by decide)).val rfl
            have e14 : u 14 = .int .u8 (d0 : Nat) := (hI 14 (by decide)).val rfl
            have e15 : u 15 = .int .u8 (d0s : Int) := (hI 15 (by decide)).val rfl
            have e16 : u 16 = .bool true := (hI 16 (by decide)).val rfl
            have e17 : u 17 = .bool true := (hI 17 (by decide)).val rfl
            clear hI
            simp only [Reg.putAll, Act.put, List.setIfInBounds_toArray, List.set_cons_succ, List.set_cons_zero, Nat.zero_add, Nat.reduceAdd, e0, e1, e2, e3, e4, e5, e6, e7, e8, e9, e10, e11, e12, e13, e14, e15, e16, e17]
            clear e0 e1 e2 e3 e4 e5 e6 e7 e8 e9 e10 e11 e12 e13 e14 e15 e16 e17
            have HW2 := Lib.hid (below_thn HWX.out (Nat.le_refl _) hS)
            clear hS
            go_wp2
            exact ⟨⟨q0 + 1, j + 1, by go_num, Lib.hid (by rw [HKJ.out]; omega), by omega, by omega, HW2⟩, by simp [intOf]; omega⟩
        · have hje1 : lo + j + 1 = e := by omega
          have hfin := HOF.out j hje1
          by_cases hn2 : (q0 : Int) + 1 < (n : Int)
          · rcases hfin with hfin | ⟨d1, hd1, hd1l, hd1n, hd1g⟩
            · exfalso; have h2 := HKJ.out; omega
            have hcn : wr.cell? ⟨x, o + (q0 + 1), none⟩ = some (.int .u8 (d1 : Nat)) := HCX.out _ _ (HCH.out (q0 + 1) d1 (by rw [HKJ.out, Nat.add_assoc I j 1]; exact hd1l))
            obtain ⟨d0, hd0⟩ : ∃ d0, d0 = lo + j := ⟨_, rfl⟩
            obtain ⟨d0s, hd0s⟩ : ∃ d0s : Int, d0s = IntKind.u8.wrap ((d0 : Int) + 1) := ⟨_, rfl⟩
            have heq : ((d1 : Int) == d0s) = false := by rw [hd0s, IntKind.wrap_u8]; simp; omega
            rw [← hd0] at hc0
            have hdw : IntKind.u8.wrap ((d0 : Int) + 1) = d0s := hd0s.symm
            clear hd0 hd0s hd1l
            go_wp2_with fail
            refine Reg.wp_region_vals (fun X => Below wr.heap.size wr X) (fun j => ([some (.int .i64 (q0 : Nat)), some (.int .i64 ((q0 : Int) + 1)), some (.slice (some ⟨x, o, none⟩) n vcap), some (.int .i64 (n : Nat)), some (.bool true), some (.bool true), some (.slice (some ⟨x, o, none⟩) n vcap), some (.int .i64 (q0 : Nat)), some (.int .i64 ((q0 : Int) + 1)), some (.pointer (some ⟨x, o + (q0 + 1), none⟩)), some (.int .u8 (d1 : Nat)), some (.slice (some ⟨x, o, none⟩) n vcap), some (.int .i64 (q0 : Nat)), some (.pointer (some ⟨x, o + q0, none⟩)), some (.int .u8 (d0 : Nat)), some (.int .u8 (d0s : Int)), some (.bool false), some (.bool false)] : List (Option Value)).getD j none) (fun _ _ _ => True) (by kernel_rfl) (by kernel_rfl) (by kernel_rfl) (by kernel_rfl) ?rs0 ?rsE ?rsZ
            case rs0 => exact (Below.refl _ _).drew
            case rsE =>
              refine Reg.EachV.plain rfl (fun T X hS hk K hK => ?_) ?_
              · skip
                have g6 : T[6]? = some (.int .i64 (q0 : Nat)) := hk.old 6 (by kernel_rfl) rfl
                have hK := hK _ X hS (Reg.Is.of_val rfl) (fun _ _ _ h => h)
                clear hk
                go_simp
                exact hK
              refine Reg.EachV.plain rfl (fun T X hS hk K hK => ?_) ?_
              · skip
                have g16 : T[16]? = some (.int .i64 (q0 : Nat)) := hk.val 0 16 (by kernel_rfl) (by kernel_rfl) rfl
                have hK := hK _ X hS (Reg.Is.of_val rfl) (fun _ _ _ h => h)
                clear hk
                go_simp
                exact hK
              refine Reg.EachV.plain rfl (fun T X hS hk K hK => ?_) ?_
              · skip
                have g3 : T[3]? = some (.slice (some ⟨x, o, none⟩) n vcap) := hk.old 3 (by kernel_rfl) rfl
                have hK := hK _ X hS (Reg.Is.of_val rfl) (fun _ _ _ h => h)
                clear hk
                go_simp
                exact hK
              refine Reg.EachV.plain rfl (fun T X hS hk K hK => ?_) ?_
              · skip
                have g18 : T[18]? = some (.slice (some ⟨x, o, none⟩) n vcap) := hk.val 2 18 (by kernel_rfl) (by kernel_rfl) rfl
                have hK := hK _ X hS (Reg.Is.of_val rfl) (fun _ _ _ h => h)
                clear hk
                go_simp
                exact hK
              refine Reg.EachV.plain rfl (fun T X hS hk K hK => ?_) ?_
              · skip
                have g17 : T[17]? = some (.int .i64 ((q0 : Int) + 1)) := hk.val 1 17 (by kernel_rfl) (by kernel_rfl) rfl
                have g19 : T[19]? = some (.int .i64 (n : Nat)) := hk.val 3 19 (by kernel_rfl) (by kernel_rfl) rfl
                have hK := hK _ X hS (Reg.Is.of_val rfl) (fun _ _ _ h => h)
                clear hk
                go_simp
                exact hK
              refine Reg.EachV.plain rfl (fun T X hS hk K hK => ?_) ?_
              · skip
                have g20 : T[20]? = some (.bool true) := hk.val 4 20 (by kernel_rfl) (by kernel_rfl) rfl
                have hK := hK _ X hS (Reg.Is.of_val rfl) (fun _ _ _ h => h)
                clear hk
                go_simp
                exact hK
              refine Reg.EachV.guarded 5 21 true rfl (by kernel_rfl) (by kernel_rfl) rfl (fun T X hS hk K hK => ?_) ?_
              · skip
                have g3 : T[3]? = some (.slice (some ⟨x, o, none⟩) n vcap) := hk.old 3 (by kernel_rfl) rfl
                have hK := hK _ X hS (Reg.Is.of_val rfl) (fun _ _ _ h => h)
                clear hk
                go_simp
                exact hK
              refine Reg.EachV.guarded 5 21 true rfl (by kernel_rfl) (by kernel_rfl) rfl (fun T X hS hk K hK => ?_) ?_
              · skip
                have g6 : T[6]? = some (.int .i64 (q0 : Nat)) := hk.old 6 (by kernel_rfl) rfl
                have hK := hK _ X hS (Reg.Is.of_val rfl) (fun _ _ _ h => h)
                clear hk
                go_simp
                exact hK
              refine Reg.EachV.guarded 5 21 true rfl (by kernel_rfl) (by kernel_rfl) rfl (fun T X hS hk K hK => ?_) ?_
              · skip
                have g23 : T[23]? = some (.int .i64 (q0 : Nat)) := hk.val 7 23 (by kernel_rfl) (by kernel_rfl) rfl
                have hK := hK _ X hS (Reg.Is.of_val rfl) (fun _ _ _ h => h)
                clear hk
                go_simp
                exact hK
              refine Reg.EachV.guarded 5 21 true rfl (by kernel_rfl) (by kernel_rfl) rfl (fun T X hS hk K hK => ?_) ?_
              · skip
                have g22 : T[22]? = some (.slice (some ⟨x, o, none⟩) n vcap) := hk.val 6 22 (by kernel_rfl) (by kernel_rfl) rfl
                have g24 : T[24]? = some (.int .i64 ((q0 : Int) + 1)) := hk.val 8 24 (by kernel_rfl) (by kernel_rfl) rfl
                have hK := hK _ X hS (Reg.Is.of_val rfl) (fun _ _ _ h => h)
                clear hk
                go_simp
                exact hK
              refine Reg.EachV.guarded 5 21 true rfl (by kernel_rfl) (by kernel_rfl) rfl (fun T X hS hk K hK => ?_) ?_
              · skip
                have g25 : T[25]? = some (.pointer (some ⟨x, o + (q0 + 1), none⟩)) := hk.val 9 25 (by kernel_rfl) (by kernel_rfl) rfl
                have hcl := (hS.cell (p := ⟨x, o + (q0 + 1), none⟩) (World.block_lt_of_cell? _ _ hcn)).trans hcn
                have hK := hK _ X hS (Reg.Is.of_val rfl) (fun _ _ _ h => h)
                clear hk
                go_simp
                exact hK
              refine Reg.EachV.guarded 5 21 true rfl (by kernel_rfl) (by kernel_rfl) rfl (fun T X hS hk K hK => ?_) ?_
              · skip
                have g3 : T[3]? = some (.slice (some ⟨x, o, none⟩) n vcap) := hk.old 3 (by kernel_rfl) rfl
                have hK := hK _ X hS (Reg.Is.of_val rfl) (fun _ _ _ h => h)
                clear hk
                go_simp
                exact hK
              refine Reg.EachV.guarded 5 21 true rfl (by kernel_rfl) (by kernel_rfl) rfl (fun T X hS hk K hK => ?_) ?_
              · skip
                have g6 : T[6]? = some (.int .i64 (q0 : Nat)) := hk.old 6 (by kernel_rfl) rfl
                have hK := hK _ X hS (Reg.Is.of_val rfl) (fun _ _ _ h => h)
                clear hk
                go_simp
                exact hK
              refine Reg.EachV.guarded 5 21 true rfl (by kernel_rfl) (by kernel_rfl) rfl (fun T X hS hk K hK => ?_) ?_
              · skip
                have g27 : T[27]? = some (.slice (some ⟨x, o, none⟩) n vcap) := hk.val 11 27 (by kernel_rfl) (by kernel_rfl) rfl
                have g28 : T[28]? = some (.int .i64 (q0 : Nat)) := hk.val 12 28 (by kernel_rfl) (by kernel_rfl) rfl
                have hK := hK _ X hS (Reg.Is.of_val rfl) (fun _ _ _ h => h)
                clear hk
                go_simp
                exact hK
              refine Reg.EachV.guarded 5 21 true rfl (by kernel_rfl) (by kernel_rfl) rfl (fun T X hS hk K hK => ?_) ?_
              · skip
                have g29 : T[29]? = some (.pointer (some ⟨x, o + q0, none⟩)) := hk.val 13 29 (by kernel_rfl) (by kernel_rfl) rfl
                have hcl := (hS.cell (p := ⟨x, o + q0, none⟩) (World.block_lt_of_cell? _ _ hc0)).trans hc0
                have hK := hK _ X hS (Reg.Is.of_val rfl) (fun _ _ _ h => h)
                clear hk
                go_simp
                exact hK
              refine Reg.EachV.guarded 5 21 true rfl (by kernel_rfl) (by kernel_rfl) rfl (fun T X hS hk K hK => ?_) ?_
              · skip
                have g30 : T[30]? = some (.int .u8 (d0 : Nat)) := hk.val 14 30 (by kernel_rfl) (by kernel_rfl) rfl
                have hK := hK _ X hS (Reg.Is.of_val rfl) (fun _ _ _ h => h)
                clear hk
                go_simp
                exact hK
              refine Reg.EachV.guarded 5 21 true rfl (by kernel_rfl) (by kernel_rfl) rfl (fun T X hS hk K hK => ?_) ?_
              · skip
                have g26 : T[26]? = some (.int .u8 (d1 : Nat)) := hk.val 10 26 (by kernel_rfl) (by kernel_rfl) rfl
                have g31 : T[31]? = some (.int .u8 (d0s : Int)) := hk.val 15 31 (by kernel_rfl) (by kernel_rfl) rfl
                have hK := hK _ X hS (Reg.Is.of_val rfl) (fun _ _ _ h => h)
                clear hk
                go_simp
                exact hK
              refine Reg.EachV.plain rfl (fun T X hS hk K hK => ?_) ?_
              · skip
                have g21 : T[21]? = some (.bool true) := hk.val 5 21 (by kernel_rfl) (by kernel_rfl) rfl
                have g32 : T[32]? = some (.bool false) := hk.val 16 32 (by kernel_rfl) (by kernel_rfl) rfl
                have hK := hK _ X hS (Reg.Is.of_val rfl) (fun _ _ _ h => h)
                clear hk
                go_simp
                exact hK
              exact Reg.EachV.nil
            case rsZ =>
              intro u w2 hS hI
              have e0 : u 0 = .int .i64 (q0 : Nat) := (hI 0 (by decide)).val rfl
              have e1 : u 1 = .int .i64 ((q0 : Int) + 1) := (hI 1 (by decide)).val rfl
              have e2 : u 2 = .slice (some ⟨x, o, none⟩) n vcap := (hI 2 (by decide)).val rfl
              have e3 : u 3 = .int .i64 (n : Nat) := (hI 3 (by decide)).val rfl
              have e4 : u 4 = .bool true := (hI 4 (by decide)).val rfl
              have e5 : u 5 = .bool true := (hI 5 (by decide)).val rfl
              have e6 : u 6 = .slice (some ⟨x, o, none⟩) n vcap := (hI 6 (by decide)).val rfl
              have e7 : u 7 = .int .i64 (q0 : Nat) := (hI 7 (by decide)).val rfl
              have e8 : u 8 = .int .i64 ((q0 : Int) + 1) := (hI 8 (by decide)).val rfl
              have e9 : u 9 = .pointer (some ⟨x, o + (q0 + 1), none⟩) := (hI 9 (by decide)).val rfl
              have e10 : u 10 = .int .u8 (d1 : Nat) := (hI 10 (by decide)).val rfl
              have e11 : u 11 = .slice (some ⟨x, o, none⟩) n vcap := (hI 11 (by decide)).val rfl
              have e12 : u 12 = .int .i64 (q0 : Nat) := (hI 12 (by decide)).val rfl
              have e13 : u 13 = .pointer (some ⟨x, o + q0, none⟩) := (hI 13 (by decide)).val rfl
              have e14 : u 14 = .int .u8 (d0 : Nat) := (hI 14 (by decide)).val rfl
              have e15 : u 15 = .int .u8 (d0s : Int) := (hI 15 (by decide)).val rfl
              have e16 : u 16 = .bool false := (hI 16 (by decide)).val rfl
              have e17 : u 17 = .bool false := (hI 17 (by decide)).val rfl
              clear hI
              simp only [Reg.putAll, Act.put, List.setIfInBounds_toArray, List.set_cons_succ, List.set_cons_zero, Nat.zero_add, Nat.reduceAdd, e0, e1, e2, e3, e4, e5, e6, e7, e8, e9, e10, e11, e12, e13, e14, e15, e16, e17]
              clear e0 e1 e2 e3 e4 e5 e6 e7 e8 e9 e10 e11 e12 e13 e14 e15 e16 e17
              have HW2 := Lib.hid (below_thn HWX.out (Nat.le_refl _) hS)
              have HCI2 := Lib.hid ((hS.cell (p := ⟨x, o + I, none⟩) (World.block_lt_of_cell? _ _ HCI.out)).trans HCI.out)
              have HC02 := Lib.hid ((hS.cell (p := ⟨x, o + q0, none⟩) (World.block_lt_of_cell? _ _ HC0.out)).trans HC0.out)
              clear hS
              by_cases hz0 : I = 0
              · have hdn : dn = [] := hnon.1 hz0
                have hI0 : ¬ (0 : Int) < (I : Int) := by omega
                have HDN := Lib.hid hdn
                subst hdn
                have HZ0 := Lib.hid hz0
                clear hz0 hnon
                by_cases hj0 : j = 0
                · have hqI : ¬ (I : Int) < (q0 : Int) := by rw [HKJ.out]; omega
                  have HJ0 := Lib.hid hj0
                  have hrun : ¬ lo + 1 < e := by omega
                  clear hj0
                  have HSI := Lib.hid (sl_one (X := w2) (x := x) (o := o) (cap := vcap) (I := I) (c := lo) HCI2.out hlo (by omega) hc2)
                  have hcv := conv_string HSI.out
                  have HXH := Lib.hid (HRHH.out lo w2 hlo)
                  have hob : (ofBys [(lo : Int)]).size = 1 := by rw [ofBys_size]; rfl
                  have hx1 : (⟨(hex2 lo).toArray⟩ : ByteArray).size = 2 := rfl
                  generalize ofBys [(lo : Int)] = sb at *
                  generalize (⟨(hex2 lo).toArray⟩ : ByteArray) = s1 at *
                  go_wp2_with fail
                  refine HXH.out.out.mono ?_
                  rintro e' w3 ⟨rfl, hb3⟩
                  have HW3 := Lib.hid (below_thn HW2.out (Nat.le_refl _) hb3)
                  have HC03 := Lib.hid ((hb3.cell (p := ⟨x, o + q0, none⟩) (World.block_lt_of_cell? _ _ HC02.out)).trans HC02.out)
                  clear hb3 hcv
                  have HNX : Hid (RtI w p (.slice (some ⟨x, o, none⟩) n vcap) e [runT lo e] w3) := Lib.hid ⟨hle, by rw [List.singleton_append, ← HST.out]; have := HI.out.spl; rwa [List.nil_append] at this, ⟨fun h => by rw [HEN.out] at h; omega, fun h => absurd h (by simp)⟩, below_thn HI.out.bel (Nat.le_refl _) HW3.out, HI.out.sl.below HW3.out⟩
                  have HSO := Lib.hid (HO1.out.2 (by omega))
                  have HPL : Hid ((q0 : Int) + 1 = ((idx p e : Nat) : Int)) := Lib.hid (by rw [HEN.out, HKJ.out]; omega)
                  go_wp2
                  exact ⟨⟨e, [runT lo e], by rw [← HSO.out], by rw [← HPL.out], HNX.out⟩, by simp [intOf]; omega⟩
                · have hqI : (I : Int) < (q0 : Int) := by rw [HKJ.out]; omega
                  have HSI := Lib.hid (sl_one (X := w2) (x := x) (o := o) (cap := vcap) (I := I) (c := lo) HCI2.out hlo (by omega) hc2)
                  have hcv := conv_string HSI.out
                  have HXH := Lib.hid (HRHH.out lo w2 hlo)
                  have hob : (ofBys [(lo : Int)]).size = 1 := by rw [ofBys_size]; rfl
                  have hx1 : (⟨(hex2 lo).toArray⟩ : ByteArray).size = 2 := rfl
                  generalize ofBys [(lo : Int)] = sb at *
                  generalize (⟨(hex2 lo).toArray⟩ : ByteArray) = s1 at *
                  go_wp2_with fail
                  refine HXH.out.out.mono ?_
                  rintro e' w3 ⟨rfl, hb3⟩
                  have HW3 := Lib.hid (below_thn HW2.out (Nat.le_refl _) hb3)
                  have HC03 := Lib.hid ((hb3.cell (p := ⟨x, o + q0, none⟩) (World.block_lt_of_cell? _ _ HC02.out)).trans HC02.out)
                  clear hb3 hcv
                  have HSK := Lib.hid (sl_one (X := w3) (x := x) (o := o) (cap := vcap) (I := q0) (c := lo + j) HC03.out (by omega) (by omega) hc2)
                  have hcv := conv_string HSK.out
                  have HXK := Lib.hid (HRHH.out (lo + j) w3 (by omega))
                  have hob2 : (ofBys [((lo + j : Nat) : Int)]).size = 1 := by rw [ofBys_size]; rfl
                  have hx2 : (⟨(hex2 (lo + j)).toArray⟩ : ByteArray).size = 2 := rfl
                  generalize ofBys [((lo + j : Nat) : Int)] = sb2 at *
                  have hlj : lo + j = e - 1 := by omega
                  rw [hlj] at HXK hx2
                  generalize (⟨(hex2 (e - 1)).toArray⟩ : ByteArray) = s2 at *
                  clear hlj
                  go_wp2_with fail
                  refine HXK.out.out.mono ?_
                  rintro e' w4 ⟨rfl, hb4⟩
                  have HW4 := Lib.hid (below_thn HW3.out (Nat.le_refl _) hb4)
                  clear hb4 hcv
                  have HNX : Hid (RtI w p (.slice (some ⟨x, o, none⟩) n vcap) e [runT lo e] w4) := Lib.hid ⟨hle, by rw [List.singleton_append, ← HST.out]; have := HI.out.spl; rwa [List.nil_append] at this, ⟨fun h => by rw [HEN.out] at h; omega, fun h => absurd h (by simp)⟩, below_thn HI.out.bel (Nat.le_refl _) HW4.out, HI.out.sl.below HW4.out⟩
                  have HSO := Lib.hid (HO1.out.1 (by omega))
                  have HPL : Hid ((q0 : Int) + 1 = ((idx p e : Nat) : Int)) := Lib.hid (by rw [HEN.out, HKJ.out]; omega)
                  go_wp2
                  exact ⟨⟨e, [runT lo e], by rw [← HSO.out], by rw [← HPL.out], HNX.out⟩, by simp [intOf]; omega⟩
              · have hdn : dn ≠ [] := fun h => hz0 (hnon.2 h)
                have hI0 : (0 : Int) < (I : Int) := by omega
                clear hnon
                by_cases hj0 : j = 0
                · have hqI : ¬ (I : Int) < (q0 : Int) := by rw [HKJ.out]; omega
                  have HJ0 := Lib.hid hj0
                  have hrun : ¬ lo + 1 < e := by omega
                  clear hj0
                  have HSI := Lib.hid (sl_one (X := w2) (x := x) (o := o) (cap := vcap) (I := I) (c := lo) HCI2.out hlo (by omega) hc2)
                  have hcv := conv_string HSI.out
                  have HXH := Lib.hid (HRHH.out lo w2 hlo)
                  have hob : (ofBys [(lo : Int)]).size = 1 := by rw [ofBys_size]; rfl
                  have hx1 : (⟨(hex2 lo).toArray⟩ : ByteArray).size = 2 := rfl
                  generalize ofBys [(lo : Int)] = sb at *
                  generalize (⟨(hex2 lo).toArray⟩ : ByteArray) = s1 at *
                  go_wp2_with fail
                  refine HXH.out.out.mono ?_
                  rintro e' w3 ⟨rfl, hb3⟩
                  have HW3 := Lib.hid (below_thn HW2.out (Nat.le_refl _) hb3)
                  have HC03 := Lib.hid ((hb3.cell (p := ⟨x, o + q0, none⟩) (World.block_lt_of_cell? _ _ HC02.out)).trans HC02.out)
                  clear hb3 hcv
                  have HNX : Hid (RtI w p (.slice (some ⟨x, o, none⟩) n vcap) e (dn ++ [runT lo e]) w3) := Lib.hid ⟨hle, by rw [List.append_assoc, List.singleton_append, ← HST.out]; exact HI.out.spl, ⟨fun h => by rw [HEN.out] at h; omega, fun h => absurd h (by simp)⟩, below_thn HI.out.bel (Nat.le_refl _) HW3.out, HI.out.sl.below HW3.out⟩
                  have HSO := Lib.hid ((HO2.out hdn).2 (by omega))
                  have HPL : Hid ((q0 : Int) + 1 = ((idx p e : Nat) : Int)) := Lib.hid (by rw [HEN.out, HKJ.out]; omega)
                  go_wp2
                  exact ⟨⟨e, (dn ++ [runT lo e]), by rw [← HSO.out], by rw [← HPL.out], HNX.out⟩, by simp [intOf]; omega⟩
                · have hqI : (I : Int) < (q0 : Int) := by rw [HKJ.out]; omega
                  have HSI := Lib.hid (sl_one (X := w2) (x := x) (o := o) (cap := vcap) (I := I) (c := lo) HCI2.out hlo (by omega) hc2)
                  have hcv := conv_string HSI.out
                  have HXH := Lib.hid (HRHH.out lo w2 hlo)
                  have hob : (ofBys [(lo : Int)]).size = 1 := by rw [ofBys_size]; rfl
                  have hx1 : (⟨(hex2 lo).toArray⟩ : ByteArray).size = 2 := rfl
                  generalize ofBys [(lo : Int)] = sb at *
                  generalize (⟨(hex2 lo).toArray⟩ : ByteArray) = s1 at *
                  go_wp2_with fail
                  refine HXH.out.out.mono ?_
                  rintro e' w3 ⟨rfl, hb3⟩
                  have HW3 := Lib.hid (below_thn HW2.out (Nat.le_refl _) hb3)
                  have HC03 := Lib.hid ((hb3.cell (p := ⟨x, o + q0, none⟩) (World.block_lt_of_cell? _ _ HC02.out)).trans HC02.out)
                  clear hb3 hcv
                  have HSK := Lib.hid (sl_one (X := w3) (x := x) (o := o) (cap := vcap) (I := q0) (c := lo + j) HC03.out (by omega) (by omega) hc2)
                  have hcv := conv_string HSK.out
                  have HXK := Lib.hid (HRHH.out (lo + j) w3 (by omega))
                  have hob2 : (ofBys [((lo + j : Nat) : Int)]).size = 1 := by rw [ofBys_size]; rfl
                  have hx2 : (⟨(hex2 (lo + j)).toArray⟩ : ByteArray).size = 2 := rfl
                  generalize ofBys [((lo + j : Nat) : Int)] = sb2 at *
                  have hlj : lo + j = e - 1 := by omega
                  rw [hlj] at HXK hx2
                  generalize (⟨(hex2 (e - 1)).toArray⟩ : ByteArray) = s2 at *
                  clear hlj
                  go_wp2_with fail
                  refine HXK.out.out.mono ?_
                  rintro e' w4 ⟨rfl, hb4⟩
                  have HW4 := Lib.hid (below_thn HW3.out (Nat.le_refl _) hb4)
                  clear hb4 hcv
                  have HNX : Hid (RtI w p (.slice (some ⟨x, o, none⟩) n vcap) e (dn ++ [runT lo e]) w4) := Lib.hid ⟨hle, by rw [List.append_assoc, List.singleton_append, ← HST.out]; exact HI.out.spl, ⟨fun h => by rw [HEN.out] at h; omega, fun h => absurd h (by simp)⟩, below_thn HI.out.bel (Nat.le_refl _) HW4.out, HI.out.sl.below HW4.out⟩
                  have HSO := Lib.hid ((HO2.out hdn).1 (by omega))
                  have HPL : Hid ((q0 : Int) + 1 = ((idx p e : Nat) : Int)) := Lib.hid (by rw [HEN.out, HKJ.out]; omega)
                  go_wp2
                  exact ⟨⟨e, (dn ++ [runT lo e]), by rw [← HSO.out], by rw [← HPL.out], HNX.out⟩, by simp [intOf]; omega⟩
          · have hdc : decide ((q0 : Int) + 1 < (n : Int)) = false := by simpa using hn2
            clear hfin hn2
            go_wp2_with fail
            refine Reg.wp_region_vals (fun X => Below wr.heap.size wr X) (fun j => ([some (.int .i64 (q0 : Nat)), some (.int .i64 ((q0 : Int) + 1)), some (.slice (some ⟨x, o, none⟩) n vcap), some (.int .i64 (n : Nat)), some (.bool false), some (.bool false), some undef, some undef, some undef, some undef, some undef, some undef, some undef, some undef, some undef, some undef, some undef, some (.bool false)] : List (Option Value)).getD j none) (fun _ _ _ => True) (by kernel_rfl) (by kernel_rfl) (by kernel_rfl) (by kernel_rfl) ?rs0 ?rsE ?rsZ
            case rs0 => exact (Below.refl _ _).drew
            case rsE =>
              refine Reg.EachV.plain rfl (fun T X hS hk K hK => ?_) ?_
              · skip
                have g6 : T[6]? = some (.int .i64 (q0 : Nat)) := hk.old 6 (by kernel_rfl) rfl
                have hK := hK _ X hS (Reg.Is.of_val rfl) (fun _ _ _ h => h)
                clear hk
                go_simp
                exact hK
              refine Reg.EachV.plain rfl (fun T X hS hk K hK => ?_) ?_
              · skip
                have g16 : T[16]? = some (.int .i64 (q0 : Nat)) := hk.val 0 16 (by kernel_rfl) (by kernel_rfl) rfl
                have hK := hK _ X hS (Reg.Is.of_val rfl) (fun _ _ _ h => h)
                clear hk
                go_simp
                exact hK
              refine Reg.EachV.plain rfl (fun T X hS hk K hK => ?_) ?_
              · skip
                have g3 : T[3]? = some (.slice (some ⟨x, o, none⟩) n vcap) := hk.old 3 (by kernel_rfl) rfl
                have hK := hK _ X hS (Reg.Is.of_val rfl) (fun _ _ _ h => h)
                clear hk
                go_simp
                exact hK
              refine Reg.EachV.plain rfl (fun T X hS hk K hK => ?_) ?_
              · skip
                have g18 : T[18]? = some (.slice (some ⟨x, o, none⟩) n vcap) := hk.val 2 18 (by kernel_rfl) (by kernel_rfl) rfl
                have hK := hK _ X hS (Reg.Is.of_val rfl) (fun _ _ _ h => h)
                clear hk
                go_simp
                exact hK
              refine Reg.EachV.plain rfl (fun T X hS hk K hK => ?_) ?_
              · skip
                have g17 : T[17]? = some (.int .i64 ((q0 : Int) + 1)) := hk.val 1 17 (by kernel_rfl) (by kernel_rfl) rfl
                have g19 : T[19]? = some (.int .i64 (n : Nat)) := hk.val 3 19 (by kernel_rfl) (by kernel_rfl) rfl
                have hK := hK _ X hS (Reg.Is.of_val rfl) (fun _ _ _ h => h)
                clear hk
                go_simp
                exact hK
              refine Reg.EachV.plain rfl (fun T X hS hk K hK => ?_) ?_
              · skip
                have g20 : T[20]? = some (.bool false) := hk.val 4 20 (by kernel_rfl) (by kernel_rfl) rfl
                have hK := hK _ X hS (Reg.Is.of_val rfl) (fun _ _ _ h => h)
                clear hk
                go_simp
                exact hK
              refine Reg.EachV.passed 5 21 false rfl (by kernel_rfl) (by kernel_rfl) rfl rfl ?_
              refine Reg.EachV.passed 5 21 false rfl (by kernel_rfl) (by kernel_rfl) rfl rfl ?_
              refine Reg.EachV.passed 5 21 false rfl (by kernel_rfl) (by kernel_rfl) rfl rfl ?_
              refine Reg.EachV.passed 5 21 false rfl (by kernel_rfl) (by kernel_rfl) rfl rfl ?_
              refine Reg.EachV.passed 5 21 false rfl (by kernel_rfl) (by kernel_rfl) rfl rfl ?_
              refine Reg.EachV.passed 5 21 false rfl (by kernel_rfl) (by kernel_rfl) rfl rfl ?_
              refine Reg.EachV.passed 5 21 false rfl (by kernel_rfl) (by kernel_rfl) rfl rfl ?_
              refine Reg.EachV.passed 5 21 false rfl (by kernel_rfl) (by kernel_rfl) rfl rfl ?_
              refine Reg.EachV.passed 5 21 false rfl (by kernel_rfl) (by kernel_rfl) rfl rfl ?_
              refine Reg.EachV.passed 5 21 false rfl (by kernel_rfl) (by kernel_rfl) rfl rfl ?_
              refine Reg.EachV.passed 5 21 false rfl (by kernel_rfl) (by kernel_rfl) rfl rfl ?_
              refine Reg.EachV.plain rfl (fun T X hS hk K hK => ?_) ?_
              · skip
                have g21 : T[21]? = some (.bool false) := hk.val 5 21 (by kernel_rfl) (by kernel_rfl) rfl
                have g32 : T[32]? = some (undef) := hk.val 16 32 (by kernel_rfl) (by kernel_rfl) rfl
                have hK := hK _ X hS (Reg.Is.of_val rfl) (fun _ _ _ h => h)
                clear hk
                go_simp
                exact hK
              exact Reg.EachV.nil
            case rsZ =>
              intro u w2 hS hI
              have e0 : u 0 = .int .i64 (q0 : Nat) := (hI 0 (by decide)).val rfl
              have e1 : u 1 = .int .i64 ((q0 : Int) + 1) := (hI 1 (by decide)).val rfl
              have e2 : u 2 = .slice (some ⟨x, o, none⟩) n vcap := (hI 2 (by decide)).val rfl
              have e3 : u 3 = .int .i64 (n : Nat) := (hI 3 (by decide)).val rfl
              have e4 : u 4 = .bool false := (hI 4 (by decide)).val rfl
              have e5 : u 5 = .bool false := (hI 5 (by decide)).val rfl
              have e6 : u 6 = undef := (hI 6 (by decide)).val rfl
              have e7 : u 7 = undef := (hI 7 (by decide)).val rfl
              have e8 : u 8 = undef := (hI 8 (by decide)).val rfl
              have e9 : u 9 = undef := (hI 9 (by decide)).val rfl
              have e10 : u 10 = undef := (hI 10 (by decide)).val rfl
              have e11 : u 11 = undef := (hI 11 (by decide)).val rfl
              have e12 : u 12 = undef := (hI 12 (by decide)).val rfl
              have e13 : u 13 = undef := (hI 13 (by decide)).val rfl
              have e14 : u 14 = undef := (hI 14 (by decide)).val rfl
              have e15 : u 15 = undef := (hI 15 (by decide)).val rfl
              have e16 : u 16 = undef := (hI 16 (by decide)).val rfl
              have e17 : u 17 = .bool false := (hI 17 (by decide)).val rfl
              clear hI
              simp only [Reg.putAll, Act.put, List.setIfInBounds_toArray, List.set_cons_succ, List.set_cons_zero, Nat.zero_add, Nat.reduceAdd, e0, e1, e2, e3, e4, e5, e6, e7, e8, e9, e10, e11, e12, e13, e14, e15, e16, e17]
              clear e0 e1 e2 e3 e4 e5 e6 e7 e8 e9 e10 e11 e12 e13 e14 e15 e16 e17
              have HW2 := Lib.hid (below_thn HWX.out (Nat.le_refl _) hS)
              have HCI2 := Lib.hid ((hS.cell (p := ⟨x, o + I, none⟩) (World.block_lt_of_cell? _ _ HCI.out)).trans HCI.out)
              have HC02 := Lib.hid ((hS.cell (p := ⟨x, o + q0, none⟩) (World.block_lt_of_cell? _ _ HC0.out)).trans HC0.out)
              clear hS
              by_cases hz0 : I = 0
              · have hdn : dn = [] := hnon.1 hz0
                have hI0 : ¬ (0 : Int) < (I : Int) := by omega
                have HDN := Lib.hid hdn
                subst hdn
                have HZ0 := Lib.hid hz0
                clear hz0 hnon
                by_cases hj0 : j = 0
                · have hqI : ¬ (I : Int) < (q0 : Int) := by rw [HKJ.out]; omega
                  have HJ0 := Lib.hid hj0
                  have hrun : ¬ lo + 1 < e := by omega
                  clear hj0
                  have HSI := Lib.hid (sl_one (X := w2) (x := x) (o := o) (cap := vcap) (I := I) (c := lo) HCI2.out hlo (by omega) hc2)
                  have hcv := conv_string HSI.out
                  have HXH := Lib.hid (HRHH.out lo w2 hlo)
                  have hob : (ofBys [(lo : Int)]).size = 1 := by rw [ofBys_size]; rfl
                  have hx1 : (⟨(hex2 lo).toArray⟩ : ByteArray).size = 2 := rfl
                  generalize ofBys [(lo : Int)] = sb at *
                  generalize (⟨(hex2 lo).toArray⟩ : ByteArray) = s1 at *
                  go_wp2_with fail
                  refine HXH.out.out.mono ?_
                  rintro e' w3 ⟨rfl, hb3⟩
                  have HW3 := Lib.hid (below_thn HW2.out (Nat.le_refl _) hb3)
                  have HC03 := Lib.hid ((hb3.cell (p := ⟨x, o + q0, none⟩) (World.block_lt_of_cell? _ _ HC02.out)).trans HC02.out)
                  clear hb3 hcv
                  have HNX : Hid (RtI w p (.slice (some ⟨x, o, none⟩) n vcap) e [runT lo e] w3) := Lib.hid ⟨hle, by rw [List.singleton_append, ← HST.out]; have := HI.out.spl; rwa [List.nil_append] at this, ⟨fun h => by rw [HEN.out] at h; omega, fun h => absurd h (by simp)⟩, below_thn HI.out.bel (Nat.le_refl _) HW3.out, HI.out.sl.below HW3.out⟩
                  have HSO := Lib.hid (HO1.out.2 (by omega))
                  have HPL : Hid ((q0 : Int) + 1 = ((idx p e : Nat) : Int)) := Lib.hid (by rw [HEN.out, HKJ.out]; omega)
                  go_wp2
                  exact ⟨⟨e, [runT lo e], by rw [← HSO.out], by rw [← HPL.out], HNX.out⟩, by simp [intOf]; omega⟩
                · have hqI : (I : Int) < (q0 : Int) := by rw [HKJ.out]; omega
                  have HSI := Lib.hid (sl_one (X := w2) (x := x) (o := o) (cap := vcap) (I := I) (c := lo) HCI2.out hlo (by omega) hc2)
                  have hcv := conv_string HSI.out
                  have HXH := Lib.hid (HRHH.out lo w2 hlo)
                  have hob : (ofBys [(lo : Int)]).size = 1 := by rw [ofBys_size]; rfl
                  have hx1 : (⟨(hex2 lo).toArray⟩ : ByteArray).size = 2 := rfl
                  generalize ofBys [(lo : Int)] = sb at *
                  generalize (⟨(hex2 lo).toArray⟩ : ByteArray) = s1 at *
                  go_wp2_with fail
                  refine HXH.out.out.mono ?_
                  rintro e' w3 ⟨rfl, hb3⟩
                  have HW3 := Lib.hid (below_thn HW2.out (Nat.le_refl _) hb3)
                  have HC03 := Lib.hid ((hb3.cell (p := ⟨x, o + q0, none⟩) (World.block_lt_of_cell? _ _ HC02.out)).trans HC02.out)
                  clear hb3 hcv
                  have HSK := Lib.hid (sl_one (X := w3) (x := x) (o := o) (cap := vcap) (I := q0) (c := lo + j) HC03.out (by omega) (by omega) hc2)
                  have hcv := conv_string HSK.out
                  have HXK := Lib.hid (HRHH.out (lo + j) w3 (by omega))
                  have hob2 : (ofBys [((lo + j : Nat) : Int)]).size = 1 := by rw [ofBys_size]; rfl
                  have hx2 : (⟨(hex2 (lo + j)).toArray⟩ : ByteArray).size = 2 := rfl
                  generalize ofBys [((lo + j : Nat) : Int)] = sb2 at *
                  have hlj : lo + j = e - 1 := by omega
                  rw [hlj] at HXK hx2
                  generalize (⟨(hex2 (e - 1)).toArray⟩ : ByteArray) = s2 at *
                  clear hlj
                  go_wp2_with fail
                  refine HXK.out.out.mono ?_
                  rintro e' w4 ⟨rfl, hb4⟩
                  have HW4 := Lib.hid (below_thn HW3.out (Nat.le_refl _) hb4)
                  clear hb4 hcv
                  have HNX : Hid (RtI w p (.slice (some ⟨x, o, none⟩) n vcap) e [runT lo e] w4) := Lib.hid ⟨hle, by rw [List.singleton_append, ← HST.out]; have := HI.out.spl; rwa [List.nil_append] at this, ⟨fun h => by rw [HEN.out] at h; omega, fun h => absurd h (by simp)⟩, below_thn HI.out.bel (Nat.le_refl _) HW4.out, HI.out.sl.below HW4.out⟩
                  have HSO := Lib.hid (HO1.out.1 (by omega))
                  have HPL : Hid ((q0 : Int) + 1 = ((idx p e : Nat) : Int)) := Lib.hid (by rw [HEN.out, HKJ.out]; omega)
                  go_wp2
                  exact ⟨⟨e, [runT lo e], by rw [← HSO.out], by rw [← HPL.out], HNX.out⟩, by simp [intOf]; omega⟩
              · have hdn : dn ≠ [] := fun h => hz0 (hnon.2 h)
                have hI0 : (0 : Int) < (I : Int) := by omega
                clear hnon
                by_cases hj0 : j = 0
                · have hqI : ¬ (I : Int) < (q0 : Int) := by rw [HKJ.out]; omega
                  have HJ0 := Lib.hid hj0
                  have hrun : ¬ lo + 1 < e := by omega
                  clear hj0
                  have HSI := Lib.hid (sl_one (X := w2) (x := x) (o := o) (cap := vcap) (I := I) (c := lo) HCI2.out hlo (by omega) hc2)
                  have hcv := conv_string HSI.out
                  have HXH := Lib.hid (HRHH.out lo w2 hlo)
                  have hob : (ofBys [(lo : Int)]).size = 1 := by rw [ofBys_size]; rfl
                  have hx1 : (⟨(hex2 lo).toArray⟩ : ByteArray).size = 2 := rfl
                  generalize ofBys [(lo : Int)] = sb at *
                  generalize (⟨(hex2 lo).toArray⟩ : ByteArray) = s1 at *
                  go_wp2_with fail
                  refine HXH.out.out.mono ?_
                  rintro e' w3 ⟨rfl, hb3⟩
                  have HW3 := Lib.hid (below_thn HW2.out (Nat.le_refl _) hb3)
                  have HC03 := Lib.hid ((hb3.cell (p := ⟨x, o + q0, none⟩) (World.block_lt_of_cell? _ _ HC02.out)).trans HC02.out)
                  clear hb3 hcv
                  have HNX : Hid (RtI w p (.slice (some ⟨x, o, none⟩) n vcap) e (dn ++ [runT lo e]) w3) := Lib.hid ⟨hle, by rw [List.append_assoc, List.singleton_append, ← HST.out]; exact HI.out.spl, ⟨fun h => by rw [HEN.out] at h; omega, fun h => absurd h (by simp)⟩, below_thn HI.out.bel (Nat.le_refl _) HW3.out, HI.out.sl.below HW3.out⟩
                  have HSO := Lib.hid ((HO2.out hdn).2 (by omega))
                  have HPL : Hid ((q0 : Int) + 1 = ((idx p e : Nat) : Int)) := Lib.hid (by rw [HEN.out, HKJ.out]; omega)
                  go_wp2
                  exact ⟨⟨e, (dn ++ [runT lo e]), by rw [← HSO.out], by rw [← HPL.out], HNX.out⟩, by simp [intOf]; omega⟩
                · have hqI : (I : Int) < (q0 : Int) := by rw [HKJ.out]; omega
                  have HSI := Lib.hid (sl_one (X := w2) (x := x) (o := o) (cap := vcap) (I := I) (c := lo) HCI2.out hlo (by omega) hc2)
                  have hcv := conv_string HSI.out
                  have HXH := Lib.hid (HRHH.out lo w2 hlo)
                  have hob : (ofBys [(lo : Int)]).size = 1 := by rw [ofBys_size]; rfl
                  have hx1 : (⟨(hex2 lo).toArray⟩ : ByteArray).size = 2 := rfl
                  generalize ofBys [(lo : Int)] = sb at *
                  generalize (⟨(hex2 lo).toArray⟩ : ByteArray) = s1 at *
                  go_wp2_with fail
                  refine HXH.out.out.mono ?_
                  rintro e' w3 ⟨rfl, hb3⟩
                  have HW3 := Lib.hid (below_thn HW2.out (Nat.le_refl _) hb3)
                  have HC03 := Lib.hid ((hb3.cell (p := ⟨x, o + q0, none⟩) (World.block_lt_of_cell? _ _ HC02.out)).trans HC02.out)
                  clear hb3 hcv
                  have HSK := Lib.hid (sl_one (X := w3) (x := x) (o := o) (cap := vcap) (I := q0) (c := lo + j) HC03.out (by omega) (by omega) hc2)
                  have hcv := conv_string HSK.out
                  have HXK := Lib.hid (HRHH.out (lo + j) w3 (by omega))
                  have hob2 : (ofBys [((lo + j : Nat) : Int)]).size = 1 := by rw [ofBys_size]; rfl
                  have hx2 : (⟨(hex2 (lo + j)).toArray⟩ : ByteArray).size = 2 := rfl
                  generalize ofBys [((lo + j : Nat) : Int)] = sb2 at *
                  have hlj : lo + j = e - 1 := by omega
                  rw [hlj] at HXK hx2
                  generalize (⟨(hex2 (e - 1)).toArray⟩ : ByteArray) = s2 at *
                  clear hlj
                  go_wp2_with fail
                  refine HXK.out.out.mono ?_
                  rintro e' w4 ⟨rfl, hb4⟩
                  have HW4 := Lib.hid (below_thn HW3.out (Nat.le_refl _) hb4)
                  clear hb4 hcv
                  have HNX : Hid (RtI w p (.slice (some ⟨x, o, none⟩) n vcap) e (dn ++ [runT lo e]) w4) := Lib.hid ⟨hle, by rw [List.append_assoc, List.singleton_append, ← HST.out]; exact HI.out.spl, ⟨fun h => by rw [HEN.out] at h; omega, fun h => absurd h (by simp)⟩, below_thn HI.out.bel (Nat.le_refl _) HW4.out, HI.out.sl.below HW4.out⟩
                  have HSO := Lib.hid ((HO2.out hdn).1 (by omega))
                  have HPL : Hid ((q0 : Int) + 1 = ((idx p e : Nat) : Int)) := Lib.hid (by rw [HEN.out, HKJ.out]; omega)
                  go_wp2
                  exact ⟨⟨e, (dn ++ [runT lo e]), by rw [← HSO.out], by rw [← HPL.out], HNX.out⟩, by simp [intOf]; omega⟩
    · have hnl : ¬ fst p k < 256 := fun h => hlt (hmo.2 h)
      have HEN : Hid (dn = runs p) := Lib.hid (by have := HI.out.spl; rw [runsN_end p k hnl, List.append_nil] at this; exact this)
      have HTS : Hid (outS dn ++ (⟨#[93]⟩ : ByteArray) = textS p) := Lib.hid (by rw [HEN.out]; apply ByteArray.ext; simp [outS, textS, textL])
      clear hmo hnl
      go_wp2
      go_ret
      exact ⟨by rw [← HTS.out]; rfl, HI.out.bel⟩
end Go.Proofs.YtndgomocehfmgaaDoor
/- SetTexts: its walk, opened (gen_stx.py). -/
namespace Go.Proofs.YtndgomocehfmgaaDoor
open Go.RowKit

set_option maxRecDepth 100000 in
set_option maxHeartbeats 8000000 in
theorem settexts_any (p : Nat → Bool) (w : World) (hT : TZ w) (hD : DB w) :
    Calls Tryd.prog 3 #[SV p] w fun e w' => e = .returned (.bool true) ∧ Below w.heap.size w w' := by
  have HX : ∀ (X : World), Below w.heap.size w X → Hid (Calls Tryd.prog 11 #[.agg #[.int .u64 (sw p 0 : Nat), .int .u64 (sw p 1 : Nat), .int .u64 (sw p 2 : Nat), .int .u64 (sw p 3 : Nat)]] X fun e w' => e = .returned (.string (textS p)) ∧ Below X.heap.size X w') := fun X hX => Lib.hid (text_any p X (hT.below hX) (hD.below hX))
  have HY : ∀ (X : World), Hid (Calls Tryd.prog 12 #[.agg #[.int .u64 (sw p 0 : Nat), .int .u64 (sw p 1 : Nat), .int .u64 (sw p 2 : Nat), .int .u64 (sw p 3 : Nat)]] X fun e w' => e = .returned (.string (textS p)) ∧ Below X.heap.size X w') := fun X => Lib.hid (rtext_any p X)
  have HA : ∀ (X : World), Hid (Calls Tryd.prog 13 #[] X fun e w' => e = .returned (.bool true) ∧ Below X.heap.size X w') := fun X => Lib.hid (awake5_any X)
  have HXH := Lib.hid HX
  generalize textS p = ts at *
  have HB0 : Hid (Below w.heap.size w (w.alloc (.cells #[.int .u64 (sw p 0 : Nat), .int .u64 (sw p 1 : Nat), .int .u64 (sw p 2 : Nat), .int .u64 (sw p 3 : Nat)] 24)) ∧ (w.alloc (.cells #[.int .u64 (sw p 0 : Nat), .int .u64 (sw p 1 : Nat), .int .u64 (sw p 2 : Nat), .int .u64 (sw p 3 : Nat)] 24)).heap[w.heap.size]? = some (.cells #[.int .u64 (sw p 0 : Nat), .int .u64 (sw p 1 : Nat), .int .u64 (sw p 2 : Nat), .int .u64 (sw p 3 : Nat)] 24 (0, 0))) := Lib.hid ⟨(Below.refl _ _).alloc (Nat.le_refl _) _, alloc_last w _⟩
  clear hT hD HX
  unfold SV
  go_enter Tryd.func3, Tryd.ntmps3
  go_wp2_with fail
  refine Reg.wp_region_vals (fun X => Below w.heap.size w X ∧ X.heap[w.heap.size]? = some (.cells #[.int .u64 (sw p 0 : Nat), .int .u64 (sw p 1 : Nat), .int .u64 (sw p 2 : Nat), .int .u64 (sw p 3 : Nat)] 24 (0, 0))) (fun j => ([some (.agg #[.int .u64 (sw p 0 : Nat), .int .u64 (sw p 1 : Nat), .int .u64 (sw p 2 : Nat), .int .u64 (sw p 3 : Nat)]), some (.string ts), some (.agg #[.int .u64 (sw p 0 : Nat), .int .u64 (sw p 1 : Nat), .int .u64 (sw p 2 : Nat), .int .u64 (sw p 3 : Nat)]), some (.string ts), some (.bool true), some (.bool true), some (.bool true), some (.bool true), some (.bool true)] : List (Option Value)).getD j none) (fun _ _ _ => True) (by kernel_rfl) (by kernel_rfl) (by kernel_rfl) (by kernel_rfl) ?rs0 ?rsE ?rsZ
  case rs0 => exact ⟨HB0.out.1.drew, HB0.out.2⟩
  case rsE =>
    refine Reg.EachV.plain rfl (fun T X hS hk K hK => ?_) ?_
    · skip
      have g1 : T[1]? = some (.pointer (some ⟨w.heap.size, 0, none⟩)) := hk.old 1 (by kernel_rfl) rfl
      obtain ⟨⟨c0, c1, c2, c3⟩, _, hbz⟩ := cells4 hS.2
      have hK := hK _ X hS (Reg.Is.of_val rfl) (fun _ _ _ h => h)
      clear hk
      go_simp
      exact hK
    refine Reg.EachV.plain rfl (fun T X hS hk K hK => ?_) ?_
    · skip
      have g3 : T[3]? = some (.agg #[.int .u64 (sw p 0 : Nat), .int .u64 (sw p 1 : Nat), .int .u64 (sw p 2 : Nat), .int .u64 (sw p 3 : Nat)]) := hk.val 0 3 (by kernel_rfl) (by kernel_rfl) rfl
      clear hk
      go_simp
      refine ((HXH.out _ hS.1).out).mono ?_
      rintro e w1 ⟨rfl, hb⟩
      exact hK _ _ (⟨below_thn hS.1 (Nat.le_refl _) hb, blk_below hS.2 hb⟩) (Reg.Is.of_val rfl) (fun _ _ _ h => h)
    refine Reg.EachV.plain rfl (fun T X hS hk K hK => ?_) ?_
    · skip
      have g1 : T[1]? = some (.pointer (some ⟨w.heap.size, 0, none⟩)) := hk.old 1 (by kernel_rfl) rfl
      obtain ⟨⟨c0, c1, c2, c3⟩, _, hbz⟩ := cells4 hS.2
      have hK := hK _ X hS (Reg.Is.of_val rfl) (fun _ _ _ h => h)
      clear hk
      go_simp
      exact hK
    refine Reg.EachV.plain rfl (fun T X hS hk K hK => ?_) ?_
    · skip
      have g5 : T[5]? = some (.agg #[.int .u64 (sw p 0 : Nat), .int .u64 (sw p 1 : Nat), .int .u64 (sw p 2 : Nat), .int .u64 (sw p 3 : Nat)]) := hk.val 2 5 (by kernel_rfl) (by kernel_rfl) rfl
      clear hk
      go_simp
      refine ((HY _).out).mono ?_
      rintro e w1 ⟨rfl, hb⟩
      exact hK _ _ (⟨below_thn hS.1 (Nat.le_refl _) hb, blk_below hS.2 hb⟩) (Reg.Is.of_val rfl) (fun _ _ _ h => h)
    refine Reg.EachV.plain rfl (fun T X hS hk K hK => ?_) ?_
    · skip
      have g4 : T[4]? = some (.string ts) := hk.val 1 4 (by kernel_rfl) (by kernel_rfl) rfl
      have g6 : T[6]? = some (.string ts) := hk.val 3 6 (by kernel_rfl) (by kernel_rfl) rfl
      have hK := hK _ X hS (Reg.Is.of_val rfl) (fun _ _ _ h => h)
      clear hk
      go_simp
      exact hK
    refine Reg.EachV.plain rfl (fun T X hS hk K hK => ?_) ?_
    · skip
      have g7 : T[7]? = some (.bool true) := hk.val 4 7 (by kernel_rfl) (by kernel_rfl) rfl
      have hK := hK _ X hS (Reg.Is.of_val rfl) (fun _ _ _ h => h)
      clear hk
      go_simp
      exact hK
    refine Reg.EachV.guarded 5 8 true rfl (by kernel_rfl) (by kernel_rfl) rfl (fun T X hS hk K hK => ?_) ?_
    · skip
      clear hk
      go_simp
      refine ((HA _).out).mono ?_
      rintro e w1 ⟨rfl, hb⟩
      exact hK _ _ (⟨below_thn hS.1 (Nat.le_refl _) hb, blk_below hS.2 hb⟩) (Reg.Is.of_val rfl) (fun _ _ _ h => h)
    refine Reg.EachV.plain rfl (fun T X hS hk K hK => ?_) ?_
    · skip
      have g8 : T[8]? = some (.bool true) := hk.val 5 8 (by kernel_rfl) (by kernel_rfl) rfl
      have g9 : T[9]? = some (.bool true) := hk.val 6 9 (by kernel_rfl) (by kernel_rfl) rfl
      have hK := hK _ X hS (Reg.Is.of_val rfl) (fun _ _ _ h => h)
      clear hk
      go_simp
      exact hK
    refine Reg.EachV.plain rfl (fun T X hS hk K hK => ?_) ?_
    · skip
      have g10 : T[10]? = some (.bool true) := hk.val 7 10 (by kernel_rfl) (by kernel_rfl) rfl
      have hK := hK _ X hS (Reg.Is.of_val rfl) (fun _ _ _ h => h)
      clear hk
      go_simp
      exact hK
    exact Reg.EachV.nil
  case rsZ =>
    intro u w1 hS hI
    have e0 : u 0 = .agg #[.int .u64 (sw p 0 : Nat), .int .u64 (sw p 1 : Nat), .int .u64 (sw p 2 : Nat), .int .u64 (sw p 3 : Nat)] := (hI 0 (by decide)).val rfl
    have e1 : u 1 = .string ts := (hI 1 (by decide)).val rfl
    have e2 : u 2 = .agg #[.int .u64 (sw p 0 : Nat), .int .u64 (sw p 1 : Nat), .int .u64 (sw p 2 : Nat), .int .u64 (sw p 3 : Nat)] := (hI 2 (by decide)).val rfl
    have e3 : u 3 = .string ts := (hI 3 (by decide)).val rfl
    have e4 : u 4 = .bool true := (hI 4 (by decide)).val rfl
    have e5 : u 5 = .bool true := (hI 5 (by decide)).val rfl
    have e6 : u 6 = .bool true := (hI 6 (by decide)).val rfl
    have e7 : u 7 = .bool true := (hI 7 (by decide)).val rfl
    have e8 : u 8 = .bool true := (hI 8 (by decide)).val rfl
    clear hI
    simp only [Reg.putAll, Act.put, List.setIfInBounds_toArray, List.set_cons_succ, List.set_cons_zero, Nat.zero_add, Nat.reduceAdd, e0, e1, e2, e3, e4, e5, e6, e7, e8]
    clear e0 e1 e2 e3 e4 e5 e6 e7 e8
    have HE := Lib.hid hS.1
    clear hS
    go_wp2
    go_ret
    exact ⟨rfl, HE.out⟩

set_option maxRecDepth 100000 in
theorem setTexts_open {H : Type} {enc : TypeId × Value → H} {d0 : DataW H} {p0 : List MemPlace} {q : Prop} (W : World) (base : Nat) (v0 : Value)
    (h0 : DataW.Trod enc Tryd.prog W 0 (fun _ => true) true 24 v0 d0 p0)
    (k0 : Value.okWide Tryd.prog W .any base 24 v0) (_ : q) (hL : laidMetH Tryd.prog Rows.setTextsRow.laid W) :
    Calls Tryd.prog 3 #[v0] W fun e W' => e = .returned (.bool true) ∧ Below W.heap.size W W' := by
  obtain ⟨p, rfl⟩ := set_of k0 h0
  obtain ⟨_, _, hT, hD⟩ := gl_of_laid (by kernel_rfl) (by kernel_rfl) hL
  exact settexts_any p W hT hD
end Go.Proofs.YtndgomocehfmgaaDoor
namespace Go.Proofs.YtndgomocehfmgaaDoor
open Go.ChangeShapes Go.WideShapes Go.ChangeAt Go.RowKit

theorem setTexts_own : ownKnob Tryd.prog.godebug = none := by kernel_rfl
theorem setTexts_laidOut : laidOutB Tryd.prog = true := by kernel_rfl

set_option maxRecDepth 100000 in
theorem setTexts_lifted (os : Os) (started : os.Started) (H : Type) (enc : TypeId × Value → H) :
    ReturnsInHanded {} Tryd.checked os 3 .any (fun w args => (Rows.setTextsSpec.pre enc Tryd.prog Tryd.f3 [] false w args ∧ laidMetH Tryd.prog Rows.setTextsRow.laid w) ∧ sizedMet enc Tryd.prog Tryd.f3 (OpenSpec.ofChange Rows.setTextsSpec) false w args)
      (Rows.setTextsSpec.post enc Tryd.prog Tryd.f3 false true false false) := by
  refine returnsInHanded_of_change_and (C := Tryd.checked) (X := fun w _ => laidMetH Tryd.prog Rows.setTextsRow.laid w) (fun _ _ _ hh h => h.of_heap hh) setTexts_own started (by kernel_rfl) Tryd.func3
    (ChangeSpec.witness_shaped (enc := enc) (C := Tryd.checked) (os := os) (X := fun w _ => laidMetH Tryd.prog Rows.setTextsRow.laid w) false (World.laidAll Tryd.prog os Rows.setTextsRow.laid) #[.agg #[.int .u64 0, .int .u64 0, .int .u64 0, .int .u64 0]] 8 (World.laidAll_os _ _ _)
      (World.shaped_of_ZipB (by kernel_rfl) (by kernel_rfl)) (by kernel_rfl) (by kernel_rfl) (by kernel_rfl)
      (by rw [MakeChecks.laidMetH_plain _ _ _ (by kernel_rfl)]; exact laidMet_laidAll _ (by kernel_rfl) (by kernel_rfl))) ?_
  intro W base args ds gs before hval0 hW _ hsz0 hL _
  have hval : ∀ (j : Nat) t v, Tryd.f3.params[j]? = some t → args[j]? = some v → Value.okWide Tryd.prog W .any base t v := hval0
  have hsz : (DataW.weightsEach Tryd.prog (Tryd.f3.params.toList ++ Rows.setTextsSpec.plain.varTypes Tryd.prog) (ds ++ gs)).all (· ≤ reachBytes) = true := hsz0
  clear hsz0
  have hW' := hW
  obtain ⟨p, q, hA0, hV, rfl, hfz, hnd⟩ := hW
  have hA : DataW.TrodAll enc Tryd.prog W 0 (fun _ => true) true Tryd.f3.params.toList args.toList ds p := hA0
  rw [Tryd.params3] at hA hval hsz
  obtain ⟨v0, d0, rfl, rfl, h0⟩ := trodAll_one hA
  obtain ⟨rfl, rfl⟩ := trodVars_none hV
  clear hA0 hval0
  simp only [List.append_nil] at hW'
  have hlt : ∀ x ∈ p, x.block < W.heap.size := fun x hx => by first | simpa using hW'.lt x hx | simpa using hW'.lt x (by simpa using hx)
  refine (setTexts_open W base v0 h0 (hval 0 24 v0 rfl rfl) hsz hL).mono fun e W' ⟨he, hb⟩ => ?_
  subst he
  have e1 : Rows.setTextsSpec.fn H ([d0] ++ []) = { results := [.lit (.bool true)], args := [d0] } := by simp [Rows.setTextsSpec]
  refine ⟨_, rfl, _, _, _, [], p, [], hW', ?_, ?_, ?_, hb.frame _, fun h => by cases h⟩
  · rw [e1]; exact trodAll_mk1 (shut_bool Tryd.underlying4 true)
  · rw [e1]; exact trodAll_mk1 (Below.trod setTexts_laidOut (by kernel_rfl) (of_decide_eq_true (by kernel_rfl)) h0 hb (fun x hx => hlt x (by simp [hx])))
  · rw [e1]; rfl

theorem setTexts_said : Rows.SetTextsSaid :=
  OpenClaim.holds_of_wide 3 Tryd.f3 rfl rfl rfl rfl rfl rfl rfl ⟨rfl, rfl, rfl, rfl, rfl⟩ rfl rfl rfl rfl rfl (by kernel_rfl) Tryd.func3 (by kernel_rfl)
    (of_decide_eq_true (by kernel_rfl)) (by unfold Func.isWrapper; rw [if_neg (of_decide_eq_false (by kernel_rfl))]; exact ⟨rfl, rfl⟩)
    (fun os started H enc _ => setTexts_lifted os started H enc)

theorem setTexts_holds : Rows.SetTextsCardSaid :=
  Claim7.holds_tied_plain_at .later [] Rows.setTextsCard.laidKinds true Rows.setTextsCard.stood.harness Rows.setTextsCard.stood.looks
    setTexts_said (fun _ h => by cases h) (by kernel_rfl) (fun _ h => by cases h) setTexts_row_tie rfl ⟨rfl, rfl⟩ (by kernel_rfl) rfl
    (fun f fn hf hfn => by
      obtain rfl : f = 3 := Option.some.inj ((show Tryd.prog.funcNamed "pidgin/pidginlaw5.SetTexts" = some 3 by kernel_rfl).symm.trans hf) |>.symm
      obtain rfl : fn = Tryd.f3 := (Option.some.inj (Tryd.func3.symm.trans hfn)).symm
      exact ⟨by kernel_rfl, fun j t ht => by
        rw [Tryd.params3] at ht
        have hm : t ∈ [24] := by simpa using Array.mem_of_getElem? ht
        have hall : ([24].all fun u => !Tryd.prog.wantsStandIn u) = true := by kernel_rfl
        exact (show Tryd.prog.wantsStandIn t = false by simpa using List.all_eq_true.1 hall t hm)⟩)
    (by kernel_rfl)
#print axioms setTexts_holds
end Go.Proofs.YtndgomocehfmgaaDoor
