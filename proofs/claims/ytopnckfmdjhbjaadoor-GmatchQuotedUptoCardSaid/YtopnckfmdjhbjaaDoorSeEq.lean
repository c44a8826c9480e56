/- Two sets, compared. -/
import Derived.Test.YtopnckfmdjhbjaaDoorSeNam
import Derived.Laws.StructEq
namespace Go.Proofs.YtopnckfmdjhbjaaDoor
open Go.RowKit

theorem u64_info : (Tryd.prog.info? 51).map (fun i => (i.zero, i.size, i.bytes)) = some (some (.int .u64 0), 1, 8) := by kernel_rfl
theorem eq_arr (d : Nat) (x0 x1 x2 x3 y0 y1 y2 y3 : Int) (w : World) :
    (Op.equalIn (d + 1 + 1) 53 (.agg #[.int .u64 x0, .int .u64 x1, .int .u64 x2, .int .u64 x3]) (.agg #[.int .u64 y0, .int .u64 y1, .int .u64 y2, .int .u64 y3])).run Tryd.prog w =
      .ok ((x0 == y0) && ((x1 == y1) && ((x2 == y2) && (x3 == y3)))) w := by
  obtain ⟨i0, hi, hz0, hz1, hz2⟩ := info_parts u64_info
  have hs : ∀ w, (sizeOf 51).run Tryd.prog w = .ok 1 w := fun w => by simp [sizeOf, typeInfo, hi, hz1]
  have he : ∀ (a b : Int) (w : World), (Op.equalIn (d + 1) 51 (.int .u64 a) (.int .u64 b)).run Tryd.prog w = .ok (a == b) w := fun a b w => run_equalIn_int w d _ .u64 .u64 a b Tryd.underlying51
  have hp : ∀ (a b c e : Value) (w : World), (part 51 #[a, b, c, e] 0).run Tryd.prog w = .ok a w ∧ (part 51 #[a, b, c, e] 1).run Tryd.prog w = .ok b w ∧ (part 51 #[a, b, c, e] 2).run Tryd.prog w = .ok c w ∧ (part 51 #[a, b, c, e] 3).run Tryd.prog w = .ok e w := fun a b c e w => ⟨by kernel_rfl, by kernel_rfl, by kernel_rfl, by kernel_rfl⟩
  rw [Op.equalIn]
  simp only [Sem.run_bind, run_underlying Tryd.underlying53, Result.andThen_ok, hs]
  rw [Std.Legacy.Range.forIn_eq_forIn_range']
  simp [Std.Legacy.Range.size, List.range', hp, he, Sem.run_bind, Sem.run_ite]
  cases h0 : (x0 == y0) <;> cases h1 : (x1 == y1) <;> cases h2 : (x2 == y2) <;> cases h3 : (x3 == y3) <;> simp_all
end Go.Proofs.YtopnckfmdjhbjaaDoor
