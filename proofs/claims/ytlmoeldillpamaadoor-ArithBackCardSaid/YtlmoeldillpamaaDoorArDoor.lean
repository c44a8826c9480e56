/- The contract of Parse, its door. -/
import Derived.Test.YtlmoeldillpamaaDoorArParse
namespace Go.Proofs.YtlmoeldillpamaaDoor
open Go.RowKit Go.Extern.Stop Go.Stop Go.Extern

theorem ta_nil (w : World) : (Instr.typeAssert .nilIface 20 25 true).run Tryd.prog w = .ok (.tuple #[.nilIface, .bool false]) w := by kernel_rfl
theorem ta_err (v : Value) (w : World) : (Instr.typeAssert (.iface 58 v) 20 25 true).run Tryd.prog w = .ok (.tuple #[.iface 58 v, .bool true]) w := run_typeAssert_hasB Tryd.underlying25 (by kernel_rfl) v _ w

set_option maxHeartbeats 2000000 in
theorem door_idle (p q : Addr) (w : World) :
    CallsD Tryd.prog 16 #[.pointer (some p), .pointer (some q)] .returning w fun e u' w' => e = .returned (.tuple #[]) ∧ u' = .returning ∧ w' = w := by
  refine callsD_of_wpS Tryd.func16 rfl fun c₀ cs hu => ?_
  apply wpS_seq
  apply wpS_region
  simp [wpOpsS, go_sem, recoverD, hu, Tryd.ntmps16, Exit.thenS, ta_nil]
  apply wpS_seq
  apply wpS_region
  simp [wpOpsS, go_sem, Exit.thenS, Act.eval, Array.replicate]
  refine wpS_cond (t := false) (by simp [Act.eval]) ?_
  simp only [Bool.false_eq_true, if_false]
  refine wpS_of_wp (wp_skip ?_)
  cases c₀
  simp_all [bodyPostS, results, Tryd.results16]
set_option maxHeartbeats 2000000 in
theorem door_panic (p q : Nat) (pv : Value) (older : List PanicEntry) (w : World) (hp : w.heap[p]? = some (.cells #[.pointer none] 23)) (hq : w.heap[q]? = some (.cells #[.nilIface] 25)) (hpq : p ≠ q) :
    CallsD Tryd.prog 16 #[.pointer (some ⟨p, 0, none⟩), .pointer (some ⟨q, 0, none⟩)] (.panicking ({ v := .iface 58 pv, recovered := false } :: older)) w fun e u' w' =>
      e = .returned (.tuple #[]) ∧ u' = .panicking ({ v := .iface 58 pv, recovered := true } :: older) ∧ w' = (w.setCell ⟨p, 0, none⟩ (.pointer none)).setCell ⟨q, 0, none⟩ (.iface 58 pv) := by
  refine callsD_of_wpS Tryd.func16 rfl fun c₀ cs hu => ?_
  apply wpS_seq
  apply wpS_region
  simp [wpOpsS, go_sem, recoverD, hu, Tryd.ntmps16, Exit.thenS, ta_err]
  apply wpS_seq
  apply wpS_region
  simp [wpOpsS, go_sem, Exit.thenS, Act.eval, Array.replicate]
  refine wpS_cond (t := true) (by simp [Act.eval]) ?_
  simp only [if_true]
  have cp : w.cell? ⟨p, 0, none⟩ = some (.pointer none) := by simp [World.cell?, hp]
  have fp : w.frozen? ⟨p, 0, none⟩ = false := by simp [World.frozen?, hp]
  have cq : w.cell? ⟨q, 0, none⟩ = some .nilIface := by simp [World.cell?, hq]
  have fq : w.frozen? ⟨q, 0, none⟩ = false := by simp [World.frozen?, hq]
  have cq' : (w.setCell ⟨p, 0, none⟩ (.pointer none)).cell? ⟨q, 0, none⟩ = some .nilIface := by
    rw [World.cell?_of_block (w := w) (Below.heap_setCell _ _ _ _ (fun h => hpq h.symm))]
    exact cq
  have fq' : (w.setCell ⟨p, 0, none⟩ (.pointer none)).frozen? ⟨q, 0, none⟩ = false := by simp [World.frozen?_setCell, fq]
  apply wpS_region
  simp [wpOpsS, go_sem, cp, fp, cq', fq', bodyPostS, results, Tryd.results16]

/-- What Parse tells: an expression of its own, or the error. -/
def Told (s : Nat → Addr) (lo : Nat) : Rs → Ending → World → Prop
  | .ok t _, e, w' => ∃ E o m, e = .returned (.tuple #[.pointer (some ⟨E, 0, none⟩), .nilIface]) ∧ lo ≤ E ∧ w'.heap[E]? = some (.cells #[.string t.op, .int .i64 t.val, .string t.nm, .int .i64 t.pos, .int .i64 t.apos, .slice o m m] 51) ∧ t.In w' lo (.slice o m m)
  | .bad c p, e, w' => ∃ v, e = .returned (.tuple #[.pointer none, .iface 58 v]) ∧ ErrAt w' s c p (.iface 58 v)
def parseP (l : List Int) (n : Nat) : Option Rs := if 1024 < l.length then some (.bad 2 0) else readP l n

theorem Chn.setCell1 {w : World} {l : List (Bool × Int)} {v r : Value} (h : Chn w l v r) {g : Nat} {x : Value} {t : TypeId} {z : Nat × Nat} (hg : w.heap[g]? = some (.cells #[x] t z)) (o : Nat) (y : Value) : Chn (w.setCell ⟨g, o, none⟩ y) l v r := by
  induction l generalizing v with
  | nil => exact h
  | cons p l ih =>
    obtain ⟨b, n⟩ := p
    obtain ⟨k, x', e, hk, hc⟩ := h
    refine ⟨k, x', e, ?_, ih hc⟩
    by_cases hkg : k = g
    · subst hkg; rw [hg] at hk; cases b <;> cases hk
    · rw [Below.heap_setCell _ _ _ _ hkg]; exact hk

set_option maxRecDepth 100000 in
set_option maxHeartbeats 4000000 in
theorem parse_any (v : Value) (l : List Int) (n : Nat) (res : Rs) (s : Nat → Addr) (w : World) (h : parseP l n = some res) (hs : Sl w v l) (he : Er w s) :
    Calls Tryd.prog 6 #[v] w fun e w' => Told s w.heap.size res e w' ∧ Below w.heap.size w w' := by
  have hmf : ∀ (fn : Fn) (first cap : Array Value) (w : World), (Instr.makeFunc fn first cap).run Tryd.prog w = .ok (.func fn first cap) w := fun _ _ _ _ => rfl
  obtain ⟨oa, n0, cap, rfl, hn0⟩ : ∃ oa n cap, v = .slice oa n cap ∧ n = l.length := by
    obtain ⟨hy, hl, ⟨rfl, a, cap, rfl⟩ | ⟨b, o, cap, rfl, hcl, hcm, hr⟩⟩ := hs
    · exact ⟨_, _, _, rfl, rfl⟩
    · exact ⟨_, _, _, rfl, rfl⟩
  have hlen := hs.2.1
  rw [← hn0] at hlen
  obtain ⟨W, hW⟩ : ∃ W : World, W = (w.alloc (.cells #[.pointer none] 23)).alloc (.cells #[.nilIface] 25) := ⟨_, rfl⟩
  have HB : Hid (Below w.heap.size w W) := Lib.hid (by rw [hW]; exact ((Below.refl _ _).alloc (Nat.le_refl _) _).alloc (by simp) _)
  have HP : Hid (W.heap[w.heap.size]? = some (.cells #[.pointer none] 23)) := Lib.hid (by rw [hW]; exact alloc_keeps (heap_alloc_last w _) _)
  have HQ : Hid (W.heap[w.heap.size + 1]? = some (.cells #[.nilIface] 25)) := Lib.hid (by rw [hW]; have := heap_alloc_last (w.alloc (.cells #[.pointer none] 23)) (.cells #[.nilIface] 25); simpa using this)
  have hsz : W.heap.size = w.heap.size + 2 := by rw [hW]; simp
  unfold parseP at h
  by_cases hbig : 1024 < l.length
  · rw [if_pos hbig] at h
    cases h
    have hbi : (1024 : Int) < n0 := by omega
    have HN := Lib.hid (refusal_any s W (he.below HB.out) 2 0 (by omega))
    rw [hW] at HN
    clear hs he hn0 hbig
    go_enter_defers Tryd.func6, Tryd.ntmps6
    go_wp2_with fail
    refine HN.out.mono ?_
    rintro e w1 ⟨⟨rfl, herr⟩, hb1⟩
    rw [← hW] at hb1 herr
    have HP1 : Hid (w1.heap[w.heap.size]? = some (.cells #[.pointer none] 23)) := Lib.hid ((hb1.block _ (by omega)).trans HP.out)
    have HQ1 : Hid (w1.heap[w.heap.size + 1]? = some (.cells #[.nilIface] 25)) := Lib.hid ((hb1.block _ (by omega)).trans HQ.out)
    have HB1 : Hid (Below w.heap.size w w1) := Lib.hid (HB.out.trans (hb1.mono HB.out.size))
    have HE := Lib.hid herr
    have h1s := lt_of_heap HQ1.out
    have h0s := lt_of_heap HP1.out
    have cP : w1.cell? ⟨w.heap.size, 0, none⟩ = some (.pointer none) := by simp [World.cell?, HP1.out]
    have cQ : w1.cell? ⟨w.heap.size + 1, 0, none⟩ = some .nilIface := by simp [World.cell?, HQ1.out]
    have fP : w1.frozen? ⟨w.heap.size, 0, none⟩ = false := by simp [World.frozen?, HP1.out]
    have fQ : w1.frozen? ⟨w.heap.size + 1, 0, none⟩ = false := by simp [World.frozen?, HQ1.out]
    clear hb1 herr hW HN
    go_wp2_with fail
    obtain ⟨pv, hpv⟩ : ∃ pv : Value, pv = .pointer (some ⟨w.heap.size + 1 + 1 + 1, 0, none⟩) := ⟨_, rfl⟩
    have HE2 : ErrAt w1 s 2 0 (.iface 58 pv) := by
      have := HE.out
      rw [hsz] at this
      rw [hpv]
      exact this
    rw [← hpv]
    clear hpv
    have hP2 := (Below.heap_setCell (w1.setCell ⟨w.heap.size, 0, none⟩ (.pointer none)) ⟨w.heap.size + 1, 0, none⟩ (.iface 58 pv) w.heap.size (by simp)).trans (set_block HP1.out 0 (.pointer none))
    have hQ2 := set_block ((Below.heap_setCell w1 ⟨w.heap.size, 0, none⟩ (.pointer none) (w.heap.size + 1) (by simp)).trans HQ1.out) 0 (.iface 58 pv)
    have herr : ErrAt ((w1.setCell ⟨w.heap.size, 0, none⟩ (.pointer none)).setCell ⟨w.heap.size + 1, 0, none⟩ (.iface 58 pv)) s 2 0 (.iface 58 pv) := Chn.setCell1 (Chn.setCell1 HE2 HP1.out _ _) ((Below.heap_setCell w1 ⟨w.heap.size, 0, none⟩ (.pointer none) (w.heap.size + 1) (by simp)).trans HQ1.out) _ _
    have hbw : Below w.heap.size w ((w1.setCell ⟨w.heap.size, 0, none⟩ (.pointer none)).setCell ⟨w.heap.size + 1, 0, none⟩ (.iface 58 pv)) := (HB1.out.setCell (p := ⟨w.heap.size, 0, none⟩) (Nat.le_refl _) _).setCell (p := ⟨w.heap.size + 1, 0, none⟩) (by simp) _
    generalize (w1.setCell ⟨w.heap.size, 0, none⟩ (.pointer none)).setCell ⟨w.heap.size + 1, 0, none⟩ (.iface 58 pv) = V at *
    have dP : V.cell? ⟨w.heap.size, 0, none⟩ = some (.pointer none) := by simp [World.cell?, hP2]
    have dQ : V.cell? ⟨w.heap.size + 1, 0, none⟩ = some (.iface 58 pv) := by simp [World.cell?, hQ2]
    refine ⟨.tuple #[.pointer none, .iface 58 pv], ?_, ⟨pv, rfl, herr⟩, hbw⟩
    simp [results, Tryd.results6, go_sem, dP, dQ]
  · rw [if_neg hbig] at h
    have hbi : ¬ (1024 : Int) < n0 := by omega
    have HR := Lib.hid (read_any _ l n res s W h (hs.below HB.out) (he.below HB.out))
    rw [hW] at HR
    clear hs he hn0 hbig h
    cases res with
    | bad c p =>
      go_enter_defers Tryd.func6, Tryd.ntmps6
      go_wp2_with fail
      refine HR.out.mono ?_
      rintro e w1 ⟨⟨pv, rfl, herr⟩, hb1⟩
      rw [← hW] at hb1
      have HP1 : Hid (w1.heap[w.heap.size]? = some (.cells #[.pointer none] 23)) := Lib.hid ((hb1.block _ (by omega)).trans HP.out)
      have HQ1 : Hid (w1.heap[w.heap.size + 1]? = some (.cells #[.nilIface] 25)) := Lib.hid ((hb1.block _ (by omega)).trans HQ.out)
      have HB1 : Hid (Below w.heap.size w w1) := Lib.hid (HB.out.trans (hb1.mono HB.out.size))
      have HE := Lib.hid herr
      clear hb1 herr hW HR
      refine leaves_cons (f := 16) (args := #[.pointer (some ⟨w.heap.size, 0, none⟩), .pointer (some ⟨w.heap.size + 1, 0, none⟩)]) (by simp) (by simp [go_sem]) ?_
      refine (door_panic w.heap.size (w.heap.size + 1) pv [] w1 HP1.out HQ1.out (by omega)).mono ?_
      rintro e u' w2 ⟨rfl, rfl, rfl⟩
      have hP2 := (Below.heap_setCell (w1.setCell ⟨w.heap.size, 0, none⟩ (.pointer none)) ⟨w.heap.size + 1, 0, none⟩ (.iface 58 pv) w.heap.size (by simp)).trans (set_block HP1.out 0 (.pointer none))
      have hQ2 := set_block ((Below.heap_setCell w1 ⟨w.heap.size, 0, none⟩ (.pointer none) (w.heap.size + 1) (by simp)).trans HQ1.out) 0 (.iface 58 pv)
      have herr : ErrAt ((w1.setCell ⟨w.heap.size, 0, none⟩ (.pointer none)).setCell ⟨w.heap.size + 1, 0, none⟩ (.iface 58 pv)) s c p (.iface 58 pv) := Chn.setCell1 (Chn.setCell1 HE.out HP1.out _ _) ((Below.heap_setCell w1 ⟨w.heap.size, 0, none⟩ (.pointer none) (w.heap.size + 1) (by simp)).trans HQ1.out) _ _
      have hbw : Below w.heap.size w ((w1.setCell ⟨w.heap.size, 0, none⟩ (.pointer none)).setCell ⟨w.heap.size + 1, 0, none⟩ (.iface 58 pv)) := (HB1.out.setCell (p := ⟨w.heap.size, 0, none⟩) (Nat.le_refl _) _).setCell (p := ⟨w.heap.size + 1, 0, none⟩) (by simp) _
      generalize (w1.setCell ⟨w.heap.size, 0, none⟩ (.pointer none)).setCell ⟨w.heap.size + 1, 0, none⟩ (.iface 58 pv) = V at *
      have cP : V.cell? ⟨w.heap.size, 0, none⟩ = some (.pointer none) := by simp [World.cell?, hP2]
      have cQ : V.cell? ⟨w.heap.size + 1, 0, none⟩ = some (.iface 58 pv) := by simp [World.cell?, hQ2]
      refine ⟨.tuple #[.pointer none, .iface 58 pv], ?_, ⟨pv, rfl, herr⟩, hbw⟩
      simp [results, Tryd.results6, go_sem, cP, cQ]
    | ok tr t1 =>
      go_enter_defers Tryd.func6, Tryd.ntmps6
      go_wp2_with fail
      refine HR.out.mono ?_
      rintro e w1 ⟨⟨o, m, rfl, hin⟩, hb1⟩
      rw [← hW] at hb1 hin
      have HP1 : Hid (w1.heap[w.heap.size]? = some (.cells #[.pointer none] 23)) := Lib.hid ((hb1.block _ (by omega)).trans HP.out)
      have HQ1 : Hid (w1.heap[w.heap.size + 1]? = some (.cells #[.nilIface] 25)) := Lib.hid ((hb1.block _ (by omega)).trans HQ.out)
      have HB1 : Hid (Below w.heap.size w w1) := Lib.hid (HB.out.trans (hb1.mono HB.out.size))
      have HIN := Lib.hid hin
      have h1s := lt_of_heap HQ1.out
      have h0s := lt_of_heap HP1.out
      have cP : w1.cell? ⟨w.heap.size, 0, none⟩ = some (.pointer none) := by simp [World.cell?, HP1.out]
      have cQ : w1.cell? ⟨w.heap.size + 1, 0, none⟩ = some .nilIface := by simp [World.cell?, HQ1.out]
      have fP : w1.frozen? ⟨w.heap.size, 0, none⟩ = false := by simp [World.frozen?, HP1.out]
      have fQ : w1.frozen? ⟨w.heap.size + 1, 0, none⟩ = false := by simp [World.frozen?, HQ1.out]
      clear hb1 hin hW HR
      go_wp2_with fail
      refine leaves_cons (f := 16) (args := #[.pointer (some ⟨w.heap.size, 0, none⟩), .pointer (some ⟨w.heap.size + 1, 0, none⟩)]) (by simp) (by simp [go_sem]) ?_
      refine (door_idle ⟨w.heap.size, 0, none⟩ ⟨w.heap.size + 1, 0, none⟩ _).mono ?_
      rintro e u' w2 ⟨rfl, rfl, rfl⟩
      obtain ⟨X, hX⟩ : ∃ X : World, X = (w1.setCell ⟨w.heap.size, 0, none⟩ (.pointer (some ⟨w1.heap.size, 0, none⟩))).setCell ⟨w.heap.size + 1, 0, none⟩ .nilIface := ⟨_, rfl⟩
      rw [← hX]
      have hXs : X.heap.size = w1.heap.size := by rw [hX]; simp
      have hXP : X.heap[w.heap.size]? = some (.cells #[.pointer (some ⟨w1.heap.size, 0, none⟩)] 23) := by
        rw [hX]; exact (Below.heap_setCell _ ⟨w.heap.size + 1, 0, none⟩ _ w.heap.size (by simp)).trans (set_block HP1.out 0 _)
      have hXQ : X.heap[w.heap.size + 1]? = some (.cells #[.nilIface] 25) := by
        rw [hX]; exact set_block ((Below.heap_setCell w1 ⟨w.heap.size, 0, none⟩ _ (w.heap.size + 1) (by simp)).trans HQ1.out) 0 .nilIface
      have hXo : ∀ k, w.heap.size + 2 ≤ k → X.heap[k]? = w1.heap[k]? := fun k hk => by
        rw [hX]; exact (Below.heap_setCell _ ⟨w.heap.size + 1, 0, none⟩ _ k (by simp; omega)).trans (Below.heap_setCell _ ⟨w.heap.size, 0, none⟩ _ k (by simp; omega))
      have hXB : Below w.heap.size w X := by rw [hX]; exact (HB1.out.setCell (p := ⟨w.heap.size, 0, none⟩) (Nat.le_refl _) _).setCell (p := ⟨w.heap.size + 1, 0, none⟩) (by simp) _
      clear hX
      have hVP := alloc_keeps hXP (.cells #[.string tr.op, .int .i64 tr.val, .string tr.nm, .int .i64 tr.pos, .int .i64 tr.apos, .slice o m m] 51)
      have hVQ := alloc_keeps hXQ (.cells #[.string tr.op, .int .i64 tr.val, .string tr.nm, .int .i64 tr.pos, .int .i64 tr.apos, .slice o m m] 51)
      have hVE := heap_alloc_last X (.cells #[.string tr.op, .int .i64 tr.val, .string tr.nm, .int .i64 tr.pos, .int .i64 tr.apos, .slice o m m] 51)
      rw [hXs] at hVE
      have hVI := HIN.out.kept (w' := X.alloc (.cells #[.string tr.op, .int .i64 tr.val, .string tr.nm, .int .i64 tr.pos, .int .i64 tr.apos, .slice o m m] 51)) (fun k hk hs => (alloc_at_old _ _ k (by omega)).trans (hXo k (by omega))) tr _
      have hVB := hXB.alloc hXB.size (.cells #[.string tr.op, .int .i64 tr.val, .string tr.nm, .int .i64 tr.pos, .int .i64 tr.apos, .slice o m m] 51)
      generalize X.alloc (.cells #[.string tr.op, .int .i64 tr.val, .string tr.nm, .int .i64 tr.pos, .int .i64 tr.apos, .slice o m m] 51) = V at *
      have dP : V.cell? ⟨w.heap.size, 0, none⟩ = some (.pointer (some ⟨w1.heap.size, 0, none⟩)) := by simp [World.cell?, hVP]
      have dQ : V.cell? ⟨w.heap.size + 1, 0, none⟩ = some .nilIface := by simp [World.cell?, hVQ]
      refine ⟨.tuple #[.pointer (some ⟨w1.heap.size, 0, none⟩), .nilIface], ?_, ⟨w1.heap.size, o, m, rfl, by omega, hVE, hVI.mono (by omega) _ _⟩, hVB⟩
      simp [results, Tryd.results6, go_sem, dP, dQ]
end Go.Proofs.YtlmoeldillpamaaDoor
