/- The library's own Mul64 (by the shelf's contract) and Add64 (the model's entry): what they answer. -/
import Derived.Test.YtlogdjhnhnfbkaaDoorProg
import Derived.Shelf.Bits.Mul64
import Derived.Laws.Externs
namespace Go.Proofs.YtlogdjhnhnfbkaaDoor
open Go.RowKit Go.Shelf

/-- The shelf's numbers, in this program's. -/
def ren : Ren := ⟨fun _ => 82, fun t => if t = 53 then 49 else 93, fun x => x⟩
theorem lays64 : Lays.n264 Tryd.prog ren where
  mixed := by kernel_rfl
  f264 := by kernel_rfl
  t53 := Tryd.underlying49
  a53 := Tryd.isAgg49
  z53 := Tryd.sizeOf49
  v53 := Tryd.zeroValue49
  t46 := Tryd.underlying93
  a46 := Tryd.isAgg93
  z46 := Tryd.sizeOf93
  v46 := Tryd.zeroValue93

/-- Both halves of a product. -/
theorem mul64_any (x y : Int) (hx0 : 0 ≤ x) (hy0 : 0 ≤ y) (hx : x < 18446744073709551616) (hy : y < 18446744073709551616) (w : World) :
    Calls Tryd.prog 82 #[.int .u64 x, .int .u64 y] w fun e w' => e = .returned (.tuple #[.int .u64 (x * y / 18446744073709551616), .int .u64 (x * y % 18446744073709551616)]) ∧ w' = w := by
  obtain ⟨X, rfl⟩ := Int.eq_ofNat_of_zero_le hx0
  obtain ⟨Y, rfl⟩ := Int.eq_ofNat_of_zero_le hy0
  have h := Any.bits_Mul64 lays64 X Y (by omega) (by omega) w
  rw [Int.natCast_ediv, Int.natCast_emod, Int.natCast_mul] at h
  exact h

/-- A sum, and what is carried. -/
theorem add64_run (x y c : Int) (hx : 0 ≤ x) (hy : 0 ≤ y) (hc0 : 0 ≤ c) (hc : c ≤ 1) (w : World) :
    (callFunc 105 #[.int .u64 x, .int .u64 y, .int .u64 c]).run Tryd.prog w = .ok (.value (.tuple #[.int .u64 ((x + y + c) % 18446744073709551616), .int .u64 ((x + y + c) / 18446744073709551616)])) w := by
  rw [run_callFunc_extern Tryd.func105 (by kernel_rfl) (by kernel_rfl) (by kernel_rfl) (e := add64Entry) (by kernel_rfl), run_add64 x y c hx hy hc0 hc]
  simp only [Result.andThen]
end Go.Proofs.YtlogdjhnhnfbkaaDoor
