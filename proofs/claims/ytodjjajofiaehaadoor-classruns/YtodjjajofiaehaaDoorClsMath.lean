/- Sets of bytes as four words: plain. -/
import Derived.Laws.Bits64b
namespace Go.Proofs.YtodjjajofiaehaaDoor
namespace Cls

/-- n bits of f from place o on, as a number. -/
def wb (f : Nat → Bool) : Nat → Nat → Nat
  | _, 0 => 0
  | o, n + 1 => (f o).toNat + 2 * wb f (o + 1) n
  termination_by _ n => n
/-- Word k of a set of bytes. -/
def wd (f : Nat → Bool) (k : Nat) : Nat := wb f (64 * k) 64
def wi (f : Nat → Bool) (k : Nat) : Int := (wd f k : Int)
theorem wb_lt (f : Nat → Bool) (o n : Nat) : wb f o n < 2 ^ n := by
  induction n generalizing o with
  | zero => simp [wb]
  | succ n ih =>
    have := ih (o + 1)
    have h2 : (f o).toNat ≤ 1 := Bool.toNat_le (f o)
    rw [wb, Nat.pow_succ]; omega
theorem wb_bit (f : Nat → Bool) (o n i : Nat) : (wb f o n).testBit i = (decide (i < n) && f (o + i)) := by
  induction n generalizing o i with
  | zero => simp [wb]
  | succ n ih =>
    cases i with
    | zero =>
      rw [wb, Nat.testBit_zero]
      cases f o <;> simp <;> omega
    | succ i =>
      rw [wb, Nat.testBit_succ]
      have h2 : (f o).toNat ≤ 1 := Bool.toNat_le (f o)
      rw [show ((f o).toNat + 2 * wb f (o + 1) n) / 2 = wb f (o + 1) n by omega, ih, show o + 1 + i = o + (i + 1) by omega]
      congr 1
      simp
theorem wd_lt (f : Nat → Bool) (k : Nat) : wd f k < 18446744073709551616 := wb_lt f (64 * k) 64
theorem wi_bd (f : Nat → Bool) (k : Nat) : 0 ≤ wi f k ∧ wi f k < 18446744073709551616 := by have := wd_lt f k; unfold wi; omega
theorem wd_bit (f : Nat → Bool) (k i : Nat) : (wd f k).testBit i = (decide (i < 64) && f (64 * k + i)) := wb_bit f (64 * k) 64 i
theorem wd_eq {f : Nat → Bool} {k x : Nat} (hx : x < 18446744073709551616) (h : ∀ i, i < 64 → x.testBit i = f (64 * k + i)) : x = wd f k := by
  apply Nat.eq_of_testBit_eq
  intro i
  rw [wd_bit]
  by_cases hi : i < 64
  · rw [h i hi]; simp [hi]
  · rw [Nat.testBit_lt_two_pow (Nat.lt_of_lt_of_le (show x < 2 ^ 64 from hx) (Nat.pow_le_pow_right (by decide) (by omega)))]; simp [hi]
theorem wd_congr {f g : Nat → Bool} (h : ∀ b, b < 256 → f b = g b) {k : Nat} (hk : k < 4) : wd f k = wd g k :=
  wd_eq (wd_lt f k) (fun i hi => by rw [wd_bit, ← h _ (by omega)]; simp [hi])
theorem wi_congr {f g : Nat → Bool} (h : ∀ b, b < 256 → f b = g b) {k : Nat} (hk : k < 4) : wi f k = wi g k := by unfold wi; rw [wd_congr h hk]
theorem wd_inj {f g : Nat → Bool} (h : ∀ k, k < 4 → wd f k = wd g k) {b : Nat} (hb : b < 256) : f b = g b := by
  have h1 := wd_bit f (b / 64) (b % 64)
  have h2 := wd_bit g (b / 64) (b % 64)
  rw [h (b / 64) (by omega), h2] at h1
  have hm : b % 64 < 64 := Nat.mod_lt _ (by omega)
  rw [show 64 * (b / 64) + b % 64 = b by omega] at h1
  simpa [hm] using h1.symm
/-- The set of four words. -/
def st (F : Nat → Int) (b : Nat) : Bool := (F (b / 64)).toNat.testBit (b % 64)
theorem st_wd {F : Nat → Int} {k : Nat} (h0 : 0 ≤ F k) (h1 : F k < 18446744073709551616) : (wd (st F) k : Int) = F k := by
  have : (F k).toNat = wd (st F) k := wd_eq (by omega) (fun i hi => by
    unfold st
    rw [show (64 * k + i) / 64 = k by omega, show (64 * k + i) % 64 = i by omega])
  omega
theorem wd_none (k : Nat) : wd (fun _ => false) k = 0 := (wd_eq (by omega) (fun i hi => by simp)).symm

/-- One byte more. -/
def ins (f : Nat → Bool) (b : Nat) : Nat → Bool := fun x => f x || x == b
theorem ins_at (f : Nat → Bool) (k i : Nat) (hi : i < 64) : wd f k ||| 2 ^ i = wd (ins f (64 * k + i)) k := by
  have hp : 2 ^ i < 2 ^ 64 := Nat.pow_lt_pow_right (by omega) hi
  refine wd_eq (Nat.or_lt_two_pow (n := 64) (wd_lt f k) hp) (fun j hj => ?_)
  rw [Nat.testBit_or, wd_bit, Nat.testBit_two_pow]
  unfold ins
  simp only [hj, decide_true, Bool.true_and]
  congr 1
  by_cases e : i = j
  · subst e; simp
  · have : ¬ 64 * k + j = 64 * k + i := by omega
    rw [decide_eq_false e, beq_eq_false_iff_ne.2 this]
theorem ins_off (f : Nat → Bool) (k i m : Nat) (hi : i < 64) (hm : m ≠ k) : wd (ins f (64 * k + i)) m = wd f m :=
  (wd_eq (wd_lt f m) (fun j hj => by
    rw [wd_bit]
    unfold ins
    have : ¬ 64 * m + j = 64 * k + i := by omega
    simp [hj, this])).symm
theorem not_at (f : Nat → Bool) (k : Nat) : 18446744073709551615 - wd f k = wd (fun b => !f b) k := by
  have h := wd_lt f k
  refine wd_eq (by omega) (fun j hj => ?_)
  have h2 := Nat.testBit_two_pow_sub_succ (n := 64) (x := wd f k) h j
  rw [show 2 ^ 64 - (wd f k + 1) = 18446744073709551615 - wd f k by omega] at h2
  rw [h2, wd_bit]
  simp [hj]
theorem or_at (f g : Nat → Bool) (k : Nat) : wd f k ||| wd g k = wd (fun b => f b || g b) k := by
  refine wd_eq (Nat.or_lt_two_pow (n := 64) (wd_lt f k) (wd_lt g k)) (fun j hj => ?_)
  rw [Nat.testBit_or, wd_bit, wd_bit]
  simp [hj]
theorem pow_int (i : Nat) (hi : i < 64) : (2 : Int) ^ i = ((2 ^ i : Nat) : Int) ∧ 0 < (2 : Int) ^ i ∧ (2 : Int) ^ i < 18446744073709551616 ∧ 2 ^ i < 18446744073709551616 := by
  have h : 2 ^ i < 2 ^ 64 := Nat.pow_lt_pow_right (by omega) hi
  have h0 : 0 < 2 ^ i := Nat.two_pow_pos i
  have e : (2 : Int) ^ i = ((2 ^ i : Nat) : Int) := by simp
  rw [e]
  generalize 2 ^ i = q at *
  exact ⟨rfl, by omega, by omega, by omega⟩
theorem wrap_pow (i : Nat) (hi : i < 64) : IntKind.u64.wrap (2 ^ i) = (2 : Int) ^ i := by
  obtain ⟨e, h0, h1, _⟩ := pow_int i hi
  rw [show IntKind.u64.wrap (2 ^ i) = (2 : Int) ^ i % 18446744073709551616 by simp [IntKind.wrap, IntKind.signed, IntKind.bits]]
  exact Int.emod_eq_of_lt (by omega) h1
theorem bits_not (x : Nat) (hx : x < 18446744073709551616) : bits .xor .u64 18446744073709551615 (x : Int) = ((18446744073709551615 - x : Nat) : Int) := by
  have h1 : (BitVec.ofInt 64 (18446744073709551615 : Int)).toNat = 18446744073709551615 := by decide +kernel
  have h2 : (BitVec.ofInt 64 (x : Int)).toNat = x := by
    rw [BitVec.ofInt_natCast, BitVec.toNat_ofNat]; exact Nat.mod_eq_of_lt (by omega)
  have h3 : 18446744073709551615 ^^^ x = 18446744073709551615 - x := by
    apply Nat.eq_of_testBit_eq
    intro i
    have a1 := Nat.testBit_two_pow_sub_succ (n := 64) (x := x) hx i
    have a2 := Nat.testBit_two_pow_sub_one 64 i
    rw [show 2 ^ 64 - (x + 1) = 18446744073709551615 - x by omega] at a1
    rw [show 2 ^ 64 - 1 = 18446744073709551615 by omega] at a2
    rw [Nat.testBit_xor, a1, a2]
    by_cases hi : i < 64
    · simp [hi]
    · rw [Nat.testBit_lt_two_pow (Nat.lt_of_lt_of_le (show x < 2 ^ 64 from hx) (Nat.pow_le_pow_right (by decide) (by omega)))]; simp [hi]
  show IntKind.u64.wrap ((BitVec.ofInt 64 (18446744073709551615 : Int) ^^^ BitVec.ofInt 64 (x : Int)).toNat : Int) = _
  rw [BitVec.toNat_xor, h1, h2, h3, show ∀ n : Int, IntKind.u64.wrap n = n % 18446744073709551616 from fun n => by simp [IntKind.wrap, IntKind.signed, IntKind.bits]]
  omega
theorem not_key (f : Nat → Bool) (k : Nat) : bits .xor .u64 18446744073709551615 (wd f k : Int) = ((wd (fun b => !f b) k : Nat) : Int) := by
  rw [bits_not _ (wd_lt f k), not_at]
theorem or_key (f g : Nat → Bool) (k : Nat) : bits .or .u64 (wd f k : Int) (wd g k : Int) = ((wd (fun b => f b || g b) k : Nat) : Int) := by
  rw [bits_or_u64_nat _ _ (wd_lt f k) (wd_lt g k), or_at]
/-- Bit i, as the program reads it. -/
theorem has_at (f : Nat → Bool) (k i : Nat) (hi : i < 64) : wd f k / 2 ^ i % 2 = (f (64 * k + i)).toNat := by
  have h := wd_bit f k i
  rw [Nat.testBit_eq_decide_div_mod_eq] at h
  simp only [hi, decide_true, Bool.true_and] at h
  have h2 : wd f k / 2 ^ i % 2 < 2 := Nat.mod_lt _ (by omega)
  rw [← h]
  by_cases e : wd f k / 2 ^ i % 2 = 1
  · simp [e]
  · simp [e]; omega
theorem has_key (f : Nat → Bool) (k i : Nat) (hi : i < 64) : (bits .and .u64 ((wd f k : Int) / 2 ^ i) 1 == 1) = f (64 * k + i) := by
  obtain ⟨e, _, _, _⟩ := pow_int i hi
  have hlt : wd f k / 2 ^ i < 18446744073709551616 := Nat.lt_of_le_of_lt (Nat.div_le_self _ _) (wd_lt f k)
  have h := has_at f k i hi
  rw [e, ← Int.natCast_ediv, show (1 : Int) = ((1 : Nat) : Int) from rfl, bits_and_u64_nat _ 1 hlt (by omega), Nat.and_one_is_mod, h]
  cases f (64 * k + i) <;> rfl
theorem half_at (f : Nat → Bool) (k i : Nat) (hi : i < 64) : wd f k / 2 ^ i = 2 * (wd f k / 2 ^ (i + 1)) + (f (64 * k + i)).toNat := by
  have h := has_at f k i hi
  have : wd f k / 2 ^ (i + 1) = wd f k / 2 ^ i / 2 := by rw [Nat.pow_succ, Nat.div_div_eq_div_mul]
  omega
theorem wd_gone (f : Nat → Bool) (k : Nat) : wd f k / 2 ^ 64 = 0 := Nat.div_eq_of_lt (wd_lt f k)
end Cls
end Go.Proofs.YtodjjajofiaehaaDoor
