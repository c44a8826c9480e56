/- The reader in memory; the contract of take. -/
import Derived.Test.YtlmoeldillpamaaDoorArErr
import Derived.Test.YtlmoeldillpamaaDoorArStr
import Derived.Test.YtlmoeldillpamaaDoorArGoes
import Derived.Deep.RegionHeld3
import Derived.Deep.RegionWith
namespace Go.Proofs.YtlmoeldillpamaaDoor
open Go.RowKit

/-- The cells of a reader: its bytes, its next token. -/
def Tk.rcells (bv : Value) (t : Tk) : Array Value := #[bv, .int .i64 t.kind, .int .i64 t.start, .int .i64 t.stop, .string t.text, .int .i64 t.num, .bool t.over]
/-- The reader in block rb: over the bytes of bv, with t next. -/
def Rd (w : World) (rb : Nat) (bv : Value) (t : Tk) : Prop := w.heap[rb]? = some (.cells (t.rcells bv) 79)
/-- What a call of the reader in block rb does to the world: that block turns, and new ones come. -/
def Ch (rb : Nat) (w w' : World) : Prop := Below rb w w' ∧ ∀ i, i < w.heap.size → i ≠ rb → w'.heap[i]? = w.heap[i]?

theorem lt_of_heap {w : World} {k : Nat} {o : Obj} (h : w.heap[k]? = some o) : k < w.heap.size := by
  rcases Nat.lt_or_ge k w.heap.size with h' | h'
  · exact h'
  · rw [Array.getElem?_eq_none h'] at h; cases h
theorem Ch.refl (rb : Nat) (w : World) : Ch rb w w := ⟨Below.refl _ _, fun _ _ _ => rfl⟩
theorem Ch.trans {rb : Nat} {w w1 w2 : World} (h : Ch rb w w1) (h' : Ch rb w1 w2) : Ch rb w w2 :=
  ⟨h.1.trans h'.1, fun i hi hb => (h'.2 i (Nat.lt_of_lt_of_le hi h.1.size) hb).trans (h.2 i hi hb)⟩
theorem Ch.of_below {rb : Nat} {w w' : World} (h : Below w.heap.size w w') (hrb : rb ≤ w.heap.size) : Ch rb w w' := ⟨h.mono hrb, fun _ hi _ => h.block _ hi⟩
theorem Ch.set {rb : Nat} (w : World) (o : Nat) (v : Value) : Ch rb w (w.setCell ⟨rb, o, none⟩ v) :=
  ⟨(Below.refl rb w).setCell (p := ⟨rb, o, none⟩) (Nat.le_refl rb) _, fun _ _ hb => Below.heap_setCell _ _ _ _ hb⟩

theorem Rd.facts {w : World} {rb : Nat} {bv : Value} {t : Tk} (h : Rd w rb bv t) :
    (w.cell? ⟨rb, 0, none⟩ = some bv ∧ w.cell? ⟨rb, 1, none⟩ = some (.int .i64 t.kind) ∧ w.cell? ⟨rb, 2, none⟩ = some (.int .i64 t.start) ∧ w.cell? ⟨rb, 3, none⟩ = some (.int .i64 t.stop) ∧ w.cell? ⟨rb, 4, none⟩ = some (.string t.text) ∧ w.cell? ⟨rb, 5, none⟩ = some (.int .i64 t.num) ∧ w.cell? ⟨rb, 6, none⟩ = some (.bool t.over)) ∧
    (w.frozen? ⟨rb, 1, none⟩ = false ∧ w.frozen? ⟨rb, 2, none⟩ = false ∧ w.frozen? ⟨rb, 3, none⟩ = false ∧ w.frozen? ⟨rb, 4, none⟩ = false ∧ w.frozen? ⟨rb, 5, none⟩ = false ∧ w.frozen? ⟨rb, 6, none⟩ = false) ∧ rb < w.heap.size := by
  have hb := lt_of_heap h
  unfold Rd Tk.rcells at h
  refine ⟨⟨?_, ?_, ?_, ?_, ?_, ?_, ?_⟩, ⟨?_, ?_, ?_, ?_, ?_, ?_⟩, hb⟩ <;> simp [World.cell?, World.frozen?, h]

/-- The world behind the store of a token into a reader. -/
def putW (w : World) (rb : Nat) (t : Tk) : World := (((((w.setCell ⟨rb, 1, none⟩ (.int .i64 t.kind)).setCell ⟨rb, 2, none⟩ (.int .i64 t.start)).setCell ⟨rb, 3, none⟩ (.int .i64 t.stop)).setCell ⟨rb, 4, none⟩ (.string t.text)).setCell ⟨rb, 5, none⟩ (.int .i64 t.num)).setCell ⟨rb, 6, none⟩ (.bool t.over)
theorem putW_ch (w : World) (rb : Nat) (t : Tk) : Ch rb w (putW w rb t) := (((((Ch.set w _ _).trans (Ch.set _ _ _)).trans (Ch.set _ _ _)).trans (Ch.set _ _ _)).trans (Ch.set _ _ _)).trans (Ch.set _ _ _)
theorem set_block {w : World} {b : Nat} {cs : Array Value} {t : TypeId} {z : Nat × Nat} (h : w.heap[b]? = some (.cells cs t z)) (o : Nat) (v : Value) : (w.setCell ⟨b, o, none⟩ v).heap[b]? = some (.cells (cs.setIfInBounds o v) t z) := by
  show (w.heap.modify b _)[b]? = _
  rw [Array.getElem?_modify, if_pos rfl, h]
  rfl
theorem Rd.put {w : World} {rb : Nat} {bv : Value} {t : Tk} (h : Rd w rb bv t) (t' : Tk) : Rd (putW w rb t') rb bv t' := by
  have := set_block (set_block (set_block (set_block (set_block (set_block h 1 (.int .i64 t'.kind)) 2 (.int .i64 t'.start)) 3 (.int .i64 t'.stop)) 4 (.string t'.text)) 5 (.int .i64 t'.num)) 6 (.bool t'.over)
  simpa [Tk.rcells, putW, Rd] using this
theorem Rd.setRow {w : World} {rb : Nat} {bv : Value} {t : Tk} (h : Rd w rb bv t) {g : Nat} (hg : g ≠ rb) (c : Array Value) : Rd (w.setRow g c) rb bv t := by
  unfold Rd at h ⊢
  show (w.heap.modify g _)[rb]? = _
  rw [Array.getElem?_modify, if_neg hg]
  exact h
theorem Ch.setRow {w w' : World} {rb : Nat} (h : Ch rb w w') {g : Nat} (hg : w.heap.size ≤ g) (hr : rb ≤ g) (c : Array Value) : Ch rb w (w'.setRow g c) :=
  ⟨below_setRow h.1 hr c, fun i hi hb => by
    show (w'.heap.modify g _)[i]? = _
    rw [Array.getElem?_modify, if_neg (by omega)]
    exact h.2 i hi hb⟩
theorem Sl.drewN {w : World} {v : Value} {l : List Int} (h : Sl w v l) (n : Nat) : Sl (w.drewN n) v l := h
set_option maxRecDepth 100000 in
set_option maxHeartbeats 4000000 in
theorem take_any (rb : Nat) (bv : Value) (l : List Int) (t : Tk) (w : World) (h : Rd w rb bv t) (hs : Sl w bv l) (hp : t.stop ≤ l.length) :
    Calls Tryd.prog 48 #[.pointer (some ⟨rb, 0, none⟩)] w fun e w' => e = .returned t.v ∧ Rd w' rb bv (tok l t.stop) ∧ Ch rb w w' := by
  obtain ⟨⟨c0, c1, c2, c3, c4, c5, c6⟩, ⟨f1, f2, f3, f4, f5, f6⟩, hb⟩ := h.facts
  obtain ⟨t', ht'⟩ : ∃ t', tok l t.stop = t' := ⟨_, rfl⟩
  rw [ht']
  have HN := Lib.hid ht'
  clear ht'
  have HS := Lib.hid hs
  have HH := Lib.hid h
  clear h hs
  go_enter Tryd.func48, Tryd.ntmps48
  go_wp2_with fail
  obtain ⟨W, hW⟩ : ∃ W : World, W = (w.alloc (.cells #[.int .i64 0, .int .i64 0, .int .i64 0, .string ⟨#[]⟩, .int .i64 0, .bool false] 76)).alloc (.cells #[.int .i64 t.kind, .int .i64 t.start, .int .i64 t.stop, .string t.text, .int .i64 t.num, .bool t.over] 76) := ⟨_, rfl⟩
  rw [← hW]
  have HB : Hid (Below w.heap.size w W) := Lib.hid (by rw [hW]; exact ((Below.refl _ _).alloc (Nat.le_refl _) _).alloc (by simp) _)
  have HT : Hid (W.heap[w.heap.size + 1]? = some (.cells #[.int .i64 t.kind, .int .i64 t.start, .int .i64 t.stop, .string t.text, .int .i64 t.num, .bool t.over] 76)) := Lib.hid (by
    rw [hW]
    show ((w.heap.push _).push _)[w.heap.size + 1]? = _
    rw [Array.getElem?_push, if_pos (by simp)])
  have HR : Hid (W.heap[w.heap.size]? = some (.cells #[.int .i64 0, .int .i64 0, .int .i64 0, .string ⟨#[]⟩, .int .i64 0, .bool false] 76)) := Lib.hid (by
    rw [hW]
    show ((w.heap.push _).push _)[w.heap.size]? = _
    rw [Array.getElem?_push, if_neg (by simp), Array.getElem?_push, if_pos rfl])
  clear hW
  have HRd : Hid (Rd W rb bv t) := Lib.hid ((HB.out.block rb hb).trans HH.out)
  clear c0 c1 c2 c3 c4 c5 c6 f1 f2 f3 f4 f5 f6
  obtain ⟨⟨c0, c1, c2, c3, c4, c5, c6⟩, ⟨f1, f2, f3, f4, f5, f6⟩, hb'⟩ := HRd.out.facts
  have ht2 : W.cell? ⟨w.heap.size + 1, 2, none⟩ = some (.int .i64 t.stop) := by simp [World.cell?, HT.out]
  have HSW : Hid (Sl W bv l) := Lib.hid (HS.out.below HB.out)
  go_region_with (go_at_call 32; refine (tokenAt_ex bv l t.stop t' HN.out W.drew HSW.out hp).mono ?_; rintro e w1 ⟨rfl, hb1⟩; have hB1 : Hid (Below W.heap.size W w1) := Lib.hid ((Below.refl W.heap.size W).drew.trans hb1); clear hb1; have hr1 : Hid (Rd w1 rb bv t) := Lib.hid ((hB1.out.block rb hb').trans HRd.out); obtain ⟨⟨d0, d1, d2, d3, d4, d5, d6⟩, ⟨g1, g2, g3, g4, g5, g6⟩, hb1'⟩ := hr1.out.facts)
  all_goals
    obtain ⟨V, hV⟩ : ∃ V : World, V = putW w1 rb t' := ⟨_, rfl⟩
    have hV' := hV
    unfold putW at hV'
    rw [← hV']
    clear hV'
    have HV1 : Hid (Rd V rb bv t') := Lib.hid (by rw [hV]; exact hr1.out.put t')
    have HV2 : Hid (Ch rb W V) := Lib.hid (by rw [hV]; exact (Ch.of_below hB1.out (Nat.le_of_lt hb')).trans (putW_ch _ _ _))
    clear hV d0 d1 d2 d3 d4 d5 d6 g1 g2 g3 g4 g5 g6 c0 c1 c2 c3 c4 c5 c6 f1 f2 f3 f4 f5 f6 ht2 hr1 hB1
    have HVT : Hid (V.heap[w.heap.size + 1]? = some (.cells #[.int .i64 t.kind, .int .i64 t.start, .int .i64 t.stop, .string t.text, .int .i64 t.num, .bool t.over] 76)) := Lib.hid ((HV2.out.2 _ (lt_of_heap HT.out) (by omega)).trans HT.out)
    have HVR : Hid (V.heap[w.heap.size]? = some (.cells #[.int .i64 0, .int .i64 0, .int .i64 0, .string ⟨#[]⟩, .int .i64 0, .bool false] 76)) := Lib.hid ((HV2.out.2 _ (lt_of_heap HR.out) (by omega)).trans HR.out)
    go_wp2_with (first | (refine wpList_load_row rfl 76 _ rfl (w.heap.size + 1) rfl 76 _ (0, 0) _ HVT.out Tryd.underlying76 rfl tk_info ?_) | (refine wpList_store_tk rfl _ _ rfl rfl w.heap.size t.kind t.start t.stop t.text t.num t.over rfl rfl _ HVR.out rfl ?_))
    exact bodyPost_ret (results_cell_row rfl _ _ w.heap.size 76 #[.int .i64 t.kind, .int .i64 t.start, .int .i64 t.stop, .string t.text, .int .i64 t.num, .bool t.over] (0, 0) _ rfl (setRow_self HVR.out _) Tryd.underlying76 rfl tk_info) rfl ⟨rfl, HV1.out.setRow (by omega) _, ((Ch.of_below HB.out (Nat.le_of_lt hb)).trans HV2.out).setRow (Nat.le_refl _) (Nat.le_of_lt hb) _⟩
end Go.Proofs.YtlmoeldillpamaaDoor
