/- Plain facts: the text and the size of what parentheses hold. No program. -/
import Derived.Test.YtlmoeldillpamaaGreatDoorArIn
import Derived.Test.YtlmoeldillpamaaGreatDoorArSizeT
namespace Go.Proofs.YtlmoeldillpamaaGreatDoor
open Go.RowKit

theorem txt_sh (k : Nat) : ∀ e : Tr, txt (e.sh k) = txt e
  | .num _ _ => rfl
  | .name _ _ => rfl
  | .un _ _ a => by simp only [Tr.sh, txt, txt_sh k a]
  | .bin _ _ a b => by simp only [Tr.sh, txt, txt_sh k a, txt_sh k b]
  | .cond _ _ a b c => by simp only [Tr.sh, txt, txt_sh k a, txt_sh k b, txt_sh k c]
  | .asg _ _ _ _ a => by simp only [Tr.sh, txt, txt_sh k a]
theorem sizeT_sh (k : Nat) : ∀ e : Tr, sizeT (e.sh k) = sizeT e
  | .num _ _ => rfl
  | .name _ _ => rfl
  | .un _ _ a => by simp only [Tr.sh, sizeT, sizeT_sh k a]
  | .bin _ _ a b => by simp only [Tr.sh, sizeT, sizeT_sh k a, sizeT_sh k b]
  | .cond _ _ a b c => by simp only [Tr.sh, sizeT, sizeT_sh k a, sizeT_sh k b, sizeT_sh k c]
  | .asg _ _ _ _ a => by simp only [Tr.sh, sizeT, sizeT_sh k a]

/-- Within so many parentheses an expression is told, of the same text and size. -/
theorem readP_wrap {l : List Int} {n : Nat} {e : Tr} {t : Tk} (h : readP l n = some (.ok e t)) : ∀ k, ∃ n' e' t', readP (wrapN k l) n' = some (.ok e' t') ∧ txt e' = txt e ∧ sizeT e' = sizeT e
  | 0 => ⟨n, e, t, h, rfl, rfl⟩
  | k + 1 => by
    obtain ⟨n', e', t', h1, h2, h3⟩ := readP_wrap h k
    obtain ⟨t'', h4⟩ := readP_in h1
    exact ⟨_, _, _, h4, by rw [txt_sh, h2], by rw [sizeT_sh, h3]⟩
theorem parseP_wrap {l : List Int} {n : Nat} {e : Tr} {t : Tk} (h : parseP l n = some (.ok e t)) (k : Nat) (hk : (wrapN k l).length ≤ 1024) : ∃ n' e' t', parseP (wrapN k l) n' = some (.ok e' t') ∧ txt e' = txt e ∧ sizeT e' = sizeT e := by
  have hl := (parseP_wf h).2.2
  unfold parseP at h
  rw [if_neg (by omega)] at h
  obtain ⟨n', e', t', h1, h2⟩ := readP_wrap h k
  refine ⟨n', e', t', ?_, h2⟩
  unfold parseP
  rw [if_neg (by omega)]
  exact h1
end Go.Proofs.YtlmoeldillpamaaGreatDoor
