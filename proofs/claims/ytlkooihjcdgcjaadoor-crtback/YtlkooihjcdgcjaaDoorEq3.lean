/- What '==' says of two arrays of three numbers. Nothing of the program but its types' numbers. -/
import Derived.Test.YtlkooihjcdgcjaaDoorProg
import Derived.WalkKit
import Derived.WalkSpells
import Derived.Laws.StructEq
namespace Go.Proofs.YtlkooihjcdgcjaaDoor

@[go_sem] theorem eq_arr3 (a b c d e f : Int) (w : World) : (Op.equalIn 10000 23 (.agg #[.int .u64 a, .int .u64 b, .int .u64 c]) (.agg #[.int .u64 d, .int .u64 e, .int .u64 f])).run Tryd.prog w = .ok (a == d && (b == e && c == f)) w := by
  rw [show (10000 : Nat) = 9999 + 1 from rfl, Op.equalIn]
  simp only [Sem.run_bind, run_underlying Tryd.underlying23, Result.andThen_ok]
  simp only [Std.Legacy.Range.forIn_eq_forIn_range', Std.Legacy.Range.size, Nat.sub_zero, Nat.add_sub_cancel, Nat.div_one, List.range'_succ, List.range'_zero, List.forIn_cons, List.forIn_nil]
  go_simp
  by_cases h1 : a = d <;> by_cases h2 : b = e <;> by_cases h3 : c = f <;> simp [h1, h2, h3]
end Go.Proofs.YtlkooihjcdgcjaaDoor
