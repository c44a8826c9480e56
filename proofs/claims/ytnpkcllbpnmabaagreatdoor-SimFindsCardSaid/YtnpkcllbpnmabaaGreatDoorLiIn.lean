import Derived.Test.YtnpkcllbpnmabaaGreatDoorKLi
import Derived.OrdersIn
import Derived.RangeFuncCalls
import Derived.TacticsIn
namespace Go.Proofs.YtnpkcllbpnmabaaGreatDoor.Reg
open Go
section
variable {P : Program} {Q : Exit → Act → World → Prop}
theorem wpAny_each {l : List Oper} {a : Act} {w : World} (Φ : (Nat → Bool) → (Nat → Value) → World → Prop)
  (hap : apartB l = true)
  (hd : (l.all fun o => match o.dst with | none => true | some k => k < a.tmps.size) = true)
  (hready : (l.zipIdx.all fun oi => oi.1.after.all fun e => !Region.binds .any e || e.on < oi.2) = true)
  (h0 : Φ (fun _ => false) (fun _ => undef) { w with drawn := w.drawn + 1 })
  (hE : Each P l.toArray Q a.defers a.tmps Φ l 0)
  (hend : ∀ L u w', (∀ j, j < l.length → L j = true) → Φ L u w' → Q .normal (putAll l 0 u a) w') : wpAny P .any l.toArray Q l.length (Array.replicate l.length false) a { w with drawn := w.drawn + 1 } := by
 have hd' : ∀ o ∈ l, ∀ k, o.dst = some k → k < a.tmps.size := fun o ho k hk => by
  have := List.all_eq_true.1 hd o ho
  rw [hk] at this
  simpa using this
 have key : ∀ (fuel : Nat) (listed : Array Bool) (L : Nat → Bool) (u : Nat → Value) (T : Array Value) (w : World),
   left listed ≤ fuel → listed.size = l.length → (∀ j, j < l.length → L j = listed.getD j true) → Fr l.toArray a.tmps L u T → Φ L u w → wpAny P .any l.toArray Q fuel listed ⟨T, a.defers⟩ w := by
  intro fuel
  induction fuel with
  | zero =>
   intro listed L u T w hf hs hL hF hΦ
   have hall : ∀ j, j < l.length → L j = true := by
    intro j hj
    rw [hL j hj]
    cases hb : listed.getD j true with
    | true => rfl
    | false =>
     have hlt : j < listed.size := by omega
     have hb' : listed[j]? = some false := by
      rw [Array.getElem?_eq_getElem hlt]
      simpa [Array.getD, hlt] using hb
     have := left_set listed.toList j (by simpa using hb')
     unfold left at hf
     omega
   refine ⟨?_, by rw [← fr_end hap hd' hF hall]; exact hend L u w hall hΦ⟩
   unfold Region.ready
   rw [List.filter_eq_nil_iff]
   intro j hj
   simp only [List.mem_range, List.size_toArray] at hj
   rw [← hL j hj, hall j hj]
   simp
  | succ fuel ih =>
   intro listed L u T w hf hs hL hF hΦ
   refine ⟨fun hr => ?_, fun i hi => ?_⟩
   ·
    have hall : ∀ j, j < l.length → L j = true := by
     intro j
     induction j using Nat.strongRecOn with
     | ind j ihj =>
      intro hj
      rw [hL j hj]
      cases hb : listed.getD j true with
      | true => rfl
      | false =>
       have hmem : j ∈ Region.ready .any l.toArray listed := by
        refine mem_ready.2 ⟨hb, l[j], by simp [hj], fun e he hbd => ?_⟩
        have h1 := List.all_eq_true.1 hready (l[j], j) (by
         rw [List.mem_iff_getElem?]
         exact ⟨j, by simp [hj]⟩)
        simp only [Array.all_eq_true_iff_forall_mem] at h1
        have h2 := h1 e he
        rw [hbd] at h2
        simp at h2
        have h3 := ihj e.on h2 (by omega)
        rw [hL _ (by omega)] at h3
        have hlt : e.on < listed.size := by omega
        simpa [Array.getD, hlt] using h3
       rw [hr] at hmem
       cases hmem
    rw [← fr_end hap hd' hF hall]
    exact hend L u w hall hΦ
   ·obtain ⟨hun, o, ho, hdep⟩ := mem_ready.1 hi
    have ho' : l[i]? = some o := by simpa using ho
    have hlt : i < l.length := (List.getElem?_eq_some_iff.1 ho').1
    have hLi : L i = false := by rw [hL i hlt]; exact hun
    have hdeps : (o.after.all fun e => !Region.binds .any e || L e.on) = true := by
     rw [Array.all_eq_true_iff_forall_mem]
     intro e he
     cases hb : Region.binds .any e with
     | false => simp
     | true =>
      have h1 := List.all_eq_true.1 hready (o, i) (by
            rw [List.mem_iff_getElem?]
            exact ⟨i, by
             rw [List.getElem?_eq_some_iff] at ho'
             obtain ⟨h, rfl⟩ := ho'
             simp⟩)
      simp only [Array.all_eq_true_iff_forall_mem] at h1
      have h2 := h1 e he
      rw [hb] at h2
      simp at h2
      have h3 := hdep e he hb
      have hlt' : e.on < listed.size := by omega
      rw [hL e.on (by omega)]
      simpa [Array.getD, hlt'] using h3
    have hone := Each.at l 0 hE i o ho' L u T w (by simpa using hLi) hdeps hF hΦ
    rw [Nat.zero_add] at hone
    refine wpOp_step ho fun K' hK' => ?_
    refine hone K' fun v w' hΦ' => hK' _ _ ?_
    have hF' := Fr.put (T := T) hap hF ho' (fun k hk => hd' o (List.mem_of_getElem? ho') k hk) a.defers v
    have hput : Act.put ⟨T, a.defers⟩ o.dst v = ⟨(Act.put ⟨T, a.defers⟩ o.dst v).tmps, a.defers⟩ := by
     unfold Act.put
     cases o.dst <;> rfl
    rw [hput]
    refine ih (listed.setIfInBounds i true) (upd L i true) (upd u i v) _ w' ?_ (by simpa using hs) ?_ hF' hΦ'
    ·have hb' : listed[i]? = some false := by
      have hlt' : i < listed.size := by omega
      rw [Array.getElem?_eq_getElem hlt']
      simpa [Array.getD, hlt'] using hun
     have := left_set listed.toList i (by simpa using hb')
     unfold left at *
     simp only [Array.toList_setIfInBounds]
     omega
    ·intro j hj
     by_cases hji : j = i
     ·subst hji
      have hlt' : j < listed.size := by omega
      simp [Array.getD, hlt']
     ·rw [upd_ne _ _ hji, hL j hj, getD_set_ne true (Ne.symm hji)]
 have hstart := key l.length (Array.replicate l.length false) (fun _ => false) (fun _ => undef) a.tmps { w with drawn := w.drawn + 1 }
  (by unfold left; simp [List.countP_replicate]) (by simp) (fun j hj => by simp [Array.getD, hj]) ⟨rfl, fun _ _ => rfl, fun _ _ _ _ _ h => by cases h⟩ h0
 simpa using hstart
theorem op_in {o : Oper} {a : Act} {w : World} {K : Act → World → Prop} (lr n : Nat) (hnd : ∀ c, o.op ≠ .defer c) (h : o.wp P a w K Q) : o.wpIn (Fence.wide.inRound lr) n P a w K Q := by
 unfold Oper.wpIn
 refine ⟨fun f _ => trivial, ?_⟩
 show o.uponIn (Fence.wide.inRound lr) n P a K Q ((o.semAt (some lr) a.eval).run P w)
 rw [Oper.semAt_some lr _ _ hnd]
 unfold Oper.wp at h
 generalize (execOp a.eval o).run P w = r at *
 cases r with
 | ok x w' =>
  cases x <;> simp only [Oper.upon, Oper.uponIn] at h ⊢
  case value => exact h
  case skip => exact h
  case defer => exact h
  case enter => exact ⟨fun hd => by simp [Fence.wide] at hd, CallsIn.inRound lr (callsIn_wide.2 h)⟩
  case row => exact ⟨fun hd => by simp [Fence.wide] at hd, fun c cs _ => by
   obtain ⟨v, w', r, s⟩ := h c cs
   exact ⟨v, w', r, stepsIn_wide.2 s⟩⟩
 | halt x w' => cases x <;> simp only [Oper.upon, Oper.uponIn] at h ⊢ <;> exact h
theorem wpAny_in {md : Region.Mode} {ops : Array Oper} (lr n : Nat) (hnd : ∀ o ∈ ops, ∀ c, o.op ≠ .defer c) (hQ : ¬ LetsOut Q) : ∀ (fuel : Nat) (listed : Array Bool) (a : Act) (w : World), wpAny P md ops Q fuel listed a w → wpAnyIn (Fence.wide.inRound lr) n P md ops Q fuel listed a w := by
 intro fuel
 induction fuel with
 | zero => exact fun listed a w h => h
 | succ fuel ih =>
  intro listed a w h
  refine ⟨h.1, fun i hi => ?_⟩
  have h2 := h.2 i hi
  unfold wpOp at h2
  unfold wpOpIn
  cases ho : ops[i]? with
  | none => rw [ho] at h2; exact ih _ _ _ h2
  | some o =>
   rw [ho] at h2
   simp only at h2 ⊢
   split
   ·rename_i hw
    rw [if_pos hw] at h2
    rcases h2 with h3 | h3
    ·exact op_in lr n (hnd o (Array.mem_of_getElem? ho)) (Oper.wp_mono (fun a w => ih _ a w) h3)
    ·exact (hQ h3.2).elim
   ·rename_i hw
    rw [if_neg hw] at h2
    exact ⟨fun f _ => trivial, ih _ _ _ h2⟩
def noDefer (l : List Oper) : Bool := l.all fun o => match o.op with | .defer _ => false | _ => true
theorem noDefer_spec {l : List Oper} (h : noDefer l = true) : ∀ o ∈ l.toArray, ∀ c, o.op ≠ .defer c := fun o ho c e => by
 have := List.all_eq_true.1 h o (by simpa using ho)
 rw [e] at this
 cases this
theorem wpIn_region_sto {id : Nat} {l : List Oper} {a : Act} {w : World} (lr n : Nat) (S : (Nat → Bool) → (Nat → Value) → World → Prop) (V : Nat → Option Value)
  (hm : P.follows .mixedOrders = true) (hap : apartB l = true)
  (hd : (l.all fun o => match o.dst with | none => true | some k => k < a.tmps.size) = true)
  (hready : (l.zipIdx.all fun oi => oi.1.after.all fun e => !Region.binds .any e || e.on < oi.2) = true)
  (hnd : noDefer l = true) (hQ : ∀ a w, ¬ Q .outgrown a w)
  (h0 : S (fun _ => false) (fun _ => undef) { w with drawn := w.drawn + 1 })
  (hE : EachG P l Q a.defers a.tmps S V l 0)
  (hend : ∀ L u w', (∀ j, j < l.length → L j = true) → S L u w' → (∀ j, j < l.length → ∀ x, V j = some x → u j = x) → Q .normal (putAll l 0 u a) w') : (Code.region id l.toArray true).wpIn (Fence.wide.inRound lr) n P Q a w := by
 refine wpIn_region_any hm (wpAny_in lr n (noDefer_spec hnd) (fun ⟨a, w, h⟩ => hQ a w h) _ _ _ _ ?_)
 have := wpAny_each (P := P) (Q := Q) (Sto l S V) hap hd hready ⟨fun _ _ _ h => (by cases h), h0, fun _ h => by cases h⟩ (hE.each l 0 (fun j o hj => by rw [Nat.zero_add]; exact hj))
  fun L u w' hL hΦ => hend L u w' hL hΦ.here fun j hj => hΦ.vals j (hL j hj)
 simpa using this
end
end Go.Proofs.YtnpkcllbpnmabaaGreatDoor.Reg
