/- The contracts of the reader's methods, of any number of calls. -/
import Derived.Test.YtlmoeldillpamaaDoorArBin
namespace Go.Proofs.YtlmoeldillpamaaDoor
open Go.RowKit

theorem rd_any (l : List Int) (rb : Nat) (bv : Value) (s : Nat → Addr) : ∀ n, ∀ m, m ≤ n → RdC l rb bv s m := by
  intro n
  induction n with
  | zero =>
    intro m hm
    obtain rfl : m = 0 := by omega
    exact ⟨fun _ _ _ h => by simp [rd] at h, fun _ _ _ h => by simp [rd] at h, fun _ _ _ _ h => by simp [rd] at h, fun _ _ _ h => by simp [rd] at h⟩
  | succ n ih =>
    intro m hm
    by_cases hmn : m ≤ n
    · exact ih m hmn
    obtain rfl : m = n + 1 := by omega
    have ihn := ih n (Nat.le_refl _)
    refine ⟨fun t res w h hy => ?_, fun t res w h hy => ?_, fun least t res w h h1 h2 hy => bin_any ih least t res w h h1 h2 hy, fun t res w h hy => ?_⟩
    · simp only [rd] at h
      split at h
      · rename_i hc
        obtain ⟨hk, ha⟩ := hc
        cases hr : rd l n .expr (tok l (tok l t.stop).stop) with
        | none => rw [hr] at h; cases h
        | some r =>
          rw [hr] at h
          have := expr_asg ihn t r w hr hk ha hy
          cases r with
          | ok e t' => cases h; exact this
          | bad c p => cases h; exact this
      · rename_i hc
        by_cases hk : t.kind = 3
        · have ha : asgB (tok l t.stop).text = false := by
            cases h' : asgB (tok l t.stop).text with
            | false => rfl
            | true => exact absurd ⟨hk, h'⟩ hc
          exact expr_name ihn t res w h hk ha hy
        · exact expr_noname ihn t res w h hk hy
    · simp only [rd] at h
      split at h
      · rename_i a t1 ha
        split at h
        · rename_i hq
          split at h
          · rename_i y t2 hy2
            split at h
            · rename_i hc
              split at h
              · rename_i z t3 hz
                cases h
                exact cond_full ihn t t1 a w ha hq y t2 hy2 hc z t3 hz hy
              · rename_i hne
                cases hr : rd l n .cond (tok l t2.stop) with
                | none => rw [hr] at h; cases h
                | some r =>
                  rw [hr] at h
                  cases r with
                  | ok e t' => exact absurd hr (hne _ _)
                  | bad c p => cases h; exact cond_bad4 ihn t t1 a w ha hq y t2 hy2 hc c p hr hy
            · rename_i hc
              cases h
              exact cond_bad3 ihn t t1 a w ha hq y t2 hy2 hc hy
          · rename_i hne
            cases hr : rd l n .expr (tok l t1.stop) with
            | none => rw [hr] at h; cases h
            | some r =>
              rw [hr] at h
              cases r with
              | ok e t' => exact absurd hr (hne _ _)
              | bad c p => cases h; exact cond_bad2 ihn t t1 a w ha hq c p hr hy
        · rename_i hq
          cases h
          exact cond_plain ihn t t1 a w ha hq hy
      · rename_i hne
        cases hr : rd l n (.bin 1) t with
        | none => rw [hr] at h; cases h
        | some r =>
          rw [hr] at h
          cases r with
          | ok e t' => exact absurd hr (hne _ _)
          | bad c p => cases h; exact cond_bad1 ihn t c p w hr hy
    · simp only [rd] at h
      split at h
      · rename_i hk
        split at h
        · rename_i ho
          cases h
          have := opd_over (s := s) t w hk ho hy
          have e : refuse t = .bad 6 t.start := by unfold refuse Tk.code; rw [if_pos ho]
          rw [e]
          exact this
        · rename_i ho
          have ho' : t.over = false := by simpa using ho
          split at h
          · rename_i hg
            cases h
            exact opd_goes t w hk ho' hg hy
          · rename_i hg
            cases h
            exact opd_num t w hk ho' (by simpa using hg) hy
      · rename_i hk2
        split at h
        · rename_i hk
          cases h
          exact opd_name t w hk hy
        · rename_i hk3
          split at h
          · rename_i hu
            split at h
            · rename_i a t1 ha
              cases h
              exact opd_un ihn t w hk2 hk3 hu a t1 ha hy
            · rename_i hne
              cases hr : rd l n .opd (tok l t.stop) with
              | none => rw [hr] at h; cases h
              | some r =>
                rw [hr] at h
                cases r with
                | ok e t' => exact absurd hr (hne _ _)
                | bad c p => cases h; exact opd_un_bad ihn t w hk2 hk3 hu c p hr hy
          · rename_i hu
            have hu' : unB t.text = sEmpty := by simpa using hu
            split at h
            · rename_i hp
              split at h
              · rename_i e t1 he
                split at h
                · rename_i hc
                  cases h
                  exact opd_par_yes ihn t w hk2 hk3 hu' hp e t1 he hc hy
                · rename_i hc
                  cases h
                  exact opd_par_no ihn t w hk2 hk3 hu' hp e t1 he hc hy
              · rename_i hne
                cases hr : rd l n .expr (tok l t.stop) with
                | none => rw [hr] at h; cases h
                | some r =>
                  rw [hr] at h
                  cases r with
                  | ok e t' => exact absurd hr (hne _ _)
                  | bad c p => cases h; exact opd_par_bad ihn t w hk2 hk3 hu' hp c p hr hy
            · rename_i hp
              cases h
              exact opd_no t w hk2 hk3 hu' hp hy
end Go.Proofs.YtlmoeldillpamaaDoor
