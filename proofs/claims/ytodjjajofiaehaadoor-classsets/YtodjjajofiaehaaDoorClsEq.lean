/- What '==' says of two classes, and of two pairs of bytes. Nothing of the program but its types' numbers. -/
import Derived.Test.YtodjjajofiaehaaDoorClsMath
import Derived.Test.YtodjjajofiaehaaDoorProg
import Derived.WalkKit
import Derived.WalkSpells
import Derived.Laws.StructEq
namespace Go.Proofs.YtodjjajofiaehaaDoor
namespace Cls

/-- The same words. -/
def sm (f g : Nat → Bool) : Bool := wd f 0 == wd g 0 && (wd f 1 == wd g 1 && (wd f 2 == wd g 2 && wd f 3 == wd g 3))
theorem sm_words (f g : Nat → Bool) : sm f g = true ↔ ∀ k, k < 4 → wd f k = wd g k := by
  unfold sm
  simp only [Bool.and_eq_true, beq_iff_eq]
  constructor
  · rintro ⟨h0, h1, h2, h3⟩ k hk
    generalize wd f = F at *
    generalize wd g = G at *
    match k, hk with
    | 0, _ => exact h0
    | 1, _ => exact h1
    | 2, _ => exact h2
    | 3, _ => exact h3
  · intro h
    exact ⟨h 0 (by omega), h 1 (by omega), h 2 (by omega), h 3 (by omega)⟩
theorem sm_iff (f g : Nat → Bool) : sm f g = true ↔ ∀ b, b < 256 → f b = g b :=
  (sm_words f g).trans ⟨fun h _ hb => wd_inj h hb, fun h _ hk => wd_congr h hk⟩
theorem sm_true {f g : Nat → Bool} (h : ∀ b, b < 256 → f b = g b) : sm f g = true := (sm_iff f g).2 h
theorem sm_false {f g : Nat → Bool} (h : ¬ ∀ b, b < 256 → f b = g b) : sm f g = false := by
  cases e : sm f g with
  | false => rfl
  | true => exact absurd ((sm_iff f g).1 e) h
theorem eq_arr4 (a b c d e f g h : Int) (w : World) : (Op.equalIn 10000 26 (.agg #[.int .u64 a, .int .u64 b, .int .u64 c, .int .u64 d]) (.agg #[.int .u64 e, .int .u64 f, .int .u64 g, .int .u64 h])).run Tryd.prog w = .ok (a == e && (b == f && (c == g && d == h))) w := by
  rw [show (10000 : Nat) = 9999 + 1 from rfl, Op.equalIn]
  simp only [Sem.run_bind, run_underlying Tryd.underlying26, Result.andThen_ok]
  simp only [Std.Legacy.Range.forIn_eq_forIn_range', Std.Legacy.Range.size, Nat.sub_zero, Nat.add_sub_cancel, Nat.div_one, List.range'_succ, List.range'_zero, List.forIn_cons, List.forIn_nil]
  go_simp
  by_cases h1 : a = e <;> by_cases h2 : b = f <;> by_cases h3 : c = g <;> by_cases h4 : d = h <;> simp [h1, h2, h3, h4]
theorem sm_four (f g : Nat → Bool) : (((wd f 0 : Nat) : Int) == ((wd g 0 : Nat) : Int) && (((wd f 1 : Nat) : Int) == ((wd g 1 : Nat) : Int) && (((wd f 2 : Nat) : Int) == ((wd g 2 : Nat) : Int) && ((wd f 3 : Nat) : Int) == ((wd g 3 : Nat) : Int)))) = sm f g := by
  have e : ∀ a b : Nat, ((a : Int) == (b : Int)) = (a == b) := fun a b => by
    rw [Bool.eq_iff_iff, beq_iff_eq, beq_iff_eq]; omega
  unfold sm
  rw [e, e, e, e]
@[go_sem] theorem eq_cls (f g : Nat → Bool) (w : World) : (Op.equalIn 10000 26 (.agg #[.int .u64 ((wd (f) 0 : Nat) : Int), .int .u64 ((wd (f) 1 : Nat) : Int), .int .u64 ((wd (f) 2 : Nat) : Int), .int .u64 ((wd (f) 3 : Nat) : Int)]) (.agg #[.int .u64 ((wd (g) 0 : Nat) : Int), .int .u64 ((wd (g) 1 : Nat) : Int), .int .u64 ((wd (g) 2 : Nat) : Int), .int .u64 ((wd (g) 3 : Nat) : Int)])).run Tryd.prog w = .ok (sm f g) w := by
  rw [eq_arr4, sm_four]
@[go_sem] theorem eq_cls0 (f : Nat → Bool) (w : World) : (Op.equalIn 10000 26 (.agg #[.int .u64 ((wd (f) 0 : Nat) : Int), .int .u64 ((wd (f) 1 : Nat) : Int), .int .u64 ((wd (f) 2 : Nat) : Int), .int .u64 ((wd (f) 3 : Nat) : Int)]) (.agg #[.int .u64 0, .int .u64 0, .int .u64 0, .int .u64 0])).run Tryd.prog w = .ok (sm f (fun _ => false)) w := by
  have h := eq_cls f (fun _ => false) w
  simp only [wd_none] at h
  exact h
@[go_sem] theorem eq_pair (a b c d : Int) (w : World) : (Op.equalIn 10000 22 (.agg #[.int .u8 a, .int .u8 b]) (.agg #[.int .u8 c, .int .u8 d])).run Tryd.prog w = .ok (a == c && b == d) w := by
  rw [show (10000 : Nat) = 9999 + 1 from rfl, Op.equalIn]
  simp only [Sem.run_bind, run_underlying Tryd.underlying22, Result.andThen_ok]
  simp only [Std.Legacy.Range.forIn_eq_forIn_range', Std.Legacy.Range.size, Nat.sub_zero, Nat.add_sub_cancel, Nat.div_one, List.range'_succ, List.range'_zero, List.forIn_cons, List.forIn_nil]
  go_simp
  by_cases h1 : a = c <;> by_cases h2 : b = d <;> simp [h1, h2]
end Cls
end Go.Proofs.YtodjjajofiaehaaDoor
