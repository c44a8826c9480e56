/- Contracts of scan.read over a slice of bytes, scan.Digits and the reference's Digits. -/
import Derived.Test.YtoodpajbefffhaaDoorScByte
import Derived.LoopTactic
import Derived.WalkMore
namespace Go.Proofs.YtoodpajbefffhaaDoor
open Go.RowKit

theorem ret_vb {k : IntKind} {v v' : Int} {b b' : Bool} (h1 : v = v') (h3 : b = b') : Ending.returned (.tuple #[.int k v, .bool b]) = .returned (.tuple #[.int k v', .bool b']) := by rw [h1, h3]

/-- The cells of a row of bytes. -/
def Row (w : World) (b o : Nat) (l : List Int) : Prop := ∀ i, i < l.length → w.cell? ⟨b, o + i, none⟩ = some (.int .u8 (l.getD i 0))


/-- A string's bytes. -/
def bys (s : ByteArray) : List Int := s.data.toList.map fun c => (c.toNat : Int)
theorem bys_length (s : ByteArray) : (bys s).length = s.size := by unfold bys; simp
theorem bys_getD (s : ByteArray) (k : Nat) (h : k < s.size) : (bys s).getD k 0 = (s[k].toNat : Int) := by
  unfold bys
  have h' : k < s.data.toList.length := by simpa using h
  rw [List.getD, List.getElem?_map, List.getElem?_eq_getElem h']
  rfl
theorem bys_byt (s : ByteArray) : Byt (bys s) := by
  intro i
  by_cases h : i < s.size
  · rw [bys_getD s i h]
    have := s[i].toNat_lt
    omega
  · have : (bys s).getD i 0 = 0 := by
      rw [List.getD, List.getElem?_eq_none (by rw [bys_length]; omega)]; rfl
    rw [this]; omega


end Go.Proofs.YtoodpajbefffhaaDoor
