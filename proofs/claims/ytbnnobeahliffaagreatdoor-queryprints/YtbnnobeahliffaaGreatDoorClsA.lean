/- Sets of bytes as four words: plain. How many bits a word has: the reckoning by fields: plain. A class in a box of its own. Nothing of the program but its types' numbers. Rows of whatever values in memory; rows of bools that are appended to. Nothing of the program but its types' numbers. Contracts of class.with, class.Has. Contracts of class.Not, class.Or, class.Full. What '==' says of two classes, and of two pairs of bytes. Nothing of the program but its types' numbers. Contracts of class.Of, class.Range. Contracts of math/bits.OnesCount64, class.Size. Contracts of math/bits.TrailingZeros64, class.least, class.Single. Contracts of the document's own answers of layer 6: Has, bytes, Make. Contracts of the document's own answers of layer 6: Make. Contracts of the document's own answers of layer 6: Of, Range, Full, Not, Or. Contracts of the document's own answers of layer 6: Size, Single. -/
import Derived.Laws.Bits64b
import Derived.Test.YtbnnobeahliffaaGreatDoorNttFill
import Derived.Test.YtbnnobeahliffaaGreatDoorProg
import Derived.OwnWalk
import Derived.Deep.OwnRows
import Derived.Laws.AppendOwn
import Derived.CellFam
import Derived.Deep.QuietTactic
import Derived.BigQuiet
import Derived.RegionTactic
import Derived.BigRegion
import Derived.Deep.RegionWith
import Derived.WalkKit
import Derived.WalkSpells
import Derived.Laws.StructEq
import Derived.Laws.Strings
import Derived.Lib.TrailingZeros
import Derived.Deep.RegionHeld3

namespace Go.Proofs.YtbnnobeahliffaaGreatDoor
namespace Cls

/-- n bits of f from place o on, as a number. -/
def wb (f : Nat → Bool) : Nat → Nat → Nat
  | _, 0 => 0
  | o, n + 1 => (f o).toNat + 2 * wb f (o + 1) n
  termination_by _ n => n

/-- Word k of a set of bytes. -/
def wd (f : Nat → Bool) (k : Nat) : Nat := wb f (64 * k) 64

def wi (f : Nat → Bool) (k : Nat) : Int := (wd f k : Int)

theorem wb_lt (f : Nat → Bool) (o n : Nat) : wb f o n < 2 ^ n := by
  induction n generalizing o with
  | zero => simp [wb]
  | succ n ih =>
    have := ih (o + 1)
    have h2 : (f o).toNat ≤ 1 := Bool.toNat_le (f o)
    rw [wb, Nat.pow_succ]; omega

theorem wb_bit (f : Nat → Bool) (o n i : Nat) : (wb f o n).testBit i = (decide (i < n) && f (o + i)) := by
  induction n generalizing o i with
  | zero => simp [wb]
  | succ n ih =>
    cases i with
    | zero =>
      rw [wb, Nat.testBit_zero]
      cases f o <;> simp <;> omega
    | succ i =>
      rw [wb, Nat.testBit_succ]
      have h2 : (f o).toNat ≤ 1 := Bool.toNat_le (f o)
      rw [show ((f o).toNat + 2 * wb f (o + 1) n) / 2 = wb f (o + 1) n by omega, ih, show o + 1 + i = o + (i + 1) by omega]
      congr 1
      simp

theorem wd_lt (f : Nat → Bool) (k : Nat) : wd f k < 18446744073709551616 := wb_lt f (64 * k) 64

theorem wi_bd (f : Nat → Bool) (k : Nat) : 0 ≤ wi f k ∧ wi f k < 18446744073709551616 := by have := wd_lt f k; unfold wi; omega

theorem wd_bit (f : Nat → Bool) (k i : Nat) : (wd f k).testBit i = (decide (i < 64) && f (64 * k + i)) := wb_bit f (64 * k) 64 i

theorem wd_eq {f : Nat → Bool} {k x : Nat} (hx : x < 18446744073709551616) (h : ∀ i, i < 64 → x.testBit i = f (64 * k + i)) : x = wd f k := by
  apply Nat.eq_of_testBit_eq
  intro i
  rw [wd_bit]
  by_cases hi : i < 64
  · rw [h i hi]; simp [hi]
  · rw [Nat.testBit_lt_two_pow (Nat.lt_of_lt_of_le (show x < 2 ^ 64 from hx) (Nat.pow_le_pow_right (by decide) (by omega)))]; simp [hi]

theorem wd_congr {f g : Nat → Bool} (h : ∀ b, b < 256 → f b = g b) {k : Nat} (hk : k < 4) : wd f k = wd g k :=
  wd_eq (wd_lt f k) (fun i hi => by rw [wd_bit, ← h _ (by omega)]; simp [hi])

theorem wi_congr {f g : Nat → Bool} (h : ∀ b, b < 256 → f b = g b) {k : Nat} (hk : k < 4) : wi f k = wi g k := by unfold wi; rw [wd_congr h hk]

theorem wd_inj {f g : Nat → Bool} (h : ∀ k, k < 4 → wd f k = wd g k) {b : Nat} (hb : b < 256) : f b = g b := by
  have h1 := wd_bit f (b / 64) (b % 64)
  have h2 := wd_bit g (b / 64) (b % 64)
  rw [h (b / 64) (by omega), h2] at h1
  have hm : b % 64 < 64 := Nat.mod_lt _ (by omega)
  rw [show 64 * (b / 64) + b % 64 = b by omega] at h1
  simpa [hm] using h1.symm

/-- The set of four words. -/
def st (F : Nat → Int) (b : Nat) : Bool := (F (b / 64)).toNat.testBit (b % 64)

theorem st_wd {F : Nat → Int} {k : Nat} (h0 : 0 ≤ F k) (h1 : F k < 18446744073709551616) : (wd (st F) k : Int) = F k := by
  have : (F k).toNat = wd (st F) k := wd_eq (by omega) (fun i hi => by
    unfold st
    rw [show (64 * k + i) / 64 = k by omega, show (64 * k + i) % 64 = i by omega])
  omega

theorem wd_none (k : Nat) : wd (fun _ => false) k = 0 := (wd_eq (by omega) (fun i hi => by simp)).symm

/-- One byte more. -/
def ins (f : Nat → Bool) (b : Nat) : Nat → Bool := fun x => f x || x == b

theorem ins_at (f : Nat → Bool) (k i : Nat) (hi : i < 64) : wd f k ||| 2 ^ i = wd (ins f (64 * k + i)) k := by
  have hp : 2 ^ i < 2 ^ 64 := Nat.pow_lt_pow_right (by omega) hi
  refine wd_eq (Nat.or_lt_two_pow (n := 64) (wd_lt f k) hp) (fun j hj => ?_)
  rw [Nat.testBit_or, wd_bit, Nat.testBit_two_pow]
  unfold ins
  simp only [hj, decide_true, Bool.true_and]
  congr 1
  by_cases e : i = j
  · subst e; simp
  · have : ¬ 64 * k + j = 64 * k + i := by omega
    rw [decide_eq_false e, beq_eq_false_iff_ne.2 this]

theorem ins_off (f : Nat → Bool) (k i m : Nat) (hi : i < 64) (hm : m ≠ k) : wd (ins f (64 * k + i)) m = wd f m :=
  (wd_eq (wd_lt f m) (fun j hj => by
    rw [wd_bit]
    unfold ins
    have : ¬ 64 * m + j = 64 * k + i := by omega
    simp [hj, this])).symm

theorem not_at (f : Nat → Bool) (k : Nat) : 18446744073709551615 - wd f k = wd (fun b => !f b) k := by
  have h := wd_lt f k
  refine wd_eq (by omega) (fun j hj => ?_)
  have h2 := Nat.testBit_two_pow_sub_succ (n := 64) (x := wd f k) h j
  rw [show 2 ^ 64 - (wd f k + 1) = 18446744073709551615 - wd f k by omega] at h2
  rw [h2, wd_bit]
  simp [hj]

theorem or_at (f g : Nat → Bool) (k : Nat) : wd f k ||| wd g k = wd (fun b => f b || g b) k := by
  refine wd_eq (Nat.or_lt_two_pow (n := 64) (wd_lt f k) (wd_lt g k)) (fun j hj => ?_)
  rw [Nat.testBit_or, wd_bit, wd_bit]
  simp [hj]

theorem pow_int (i : Nat) (hi : i < 64) : (2 : Int) ^ i = ((2 ^ i : Nat) : Int) ∧ 0 < (2 : Int) ^ i ∧ (2 : Int) ^ i < 18446744073709551616 ∧ 2 ^ i < 18446744073709551616 := by
  have h : 2 ^ i < 2 ^ 64 := Nat.pow_lt_pow_right (by omega) hi
  have h0 : 0 < 2 ^ i := Nat.two_pow_pos i
  have e : (2 : Int) ^ i = ((2 ^ i : Nat) : Int) := by simp
  rw [e]
  generalize 2 ^ i = q at *
  exact ⟨rfl, by omega, by omega, by omega⟩

theorem wrap_pow (i : Nat) (hi : i < 64) : IntKind.u64.wrap (2 ^ i) = (2 : Int) ^ i := by
  obtain ⟨e, h0, h1, _⟩ := pow_int i hi
  rw [show IntKind.u64.wrap (2 ^ i) = (2 : Int) ^ i % 18446744073709551616 by simp [IntKind.wrap, IntKind.signed, IntKind.bits]]
  exact Int.emod_eq_of_lt (by omega) h1

theorem bits_not (x : Nat) (hx : x < 18446744073709551616) : bits .xor .u64 18446744073709551615 (x : Int) = ((18446744073709551615 - x : Nat) : Int) := by
  have h1 : (BitVec.ofInt 64 (18446744073709551615 : Int)).toNat = 18446744073709551615 := by decide +kernel
  have h2 : (BitVec.ofInt 64 (x : Int)).toNat = x := by
    rw [BitVec.ofInt_natCast, BitVec.toNat_ofNat]; exact Nat.mod_eq_of_lt (by omega)
  have h3 : 18446744073709551615 ^^^ x = 18446744073709551615 - x := by
    apply Nat.eq_of_testBit_eq
    intro i
    have a1 := Nat.testBit_two_pow_sub_succ (n := 64) (x := x) hx i
    have a2 := Nat.testBit_two_pow_sub_one 64 i
    rw [show 2 ^ 64 - (x + 1) = 18446744073709551615 - x by omega] at a1
    rw [show 2 ^ 64 - 1 = 18446744073709551615 by omega] at a2
    rw [Nat.testBit_xor, a1, a2]
    by_cases hi : i < 64
    · simp [hi]
    · rw [Nat.testBit_lt_two_pow (Nat.lt_of_lt_of_le (show x < 2 ^ 64 from hx) (Nat.pow_le_pow_right (by decide) (by omega)))]; simp [hi]
  show IntKind.u64.wrap ((BitVec.ofInt 64 (18446744073709551615 : Int) ^^^ BitVec.ofInt 64 (x : Int)).toNat : Int) = _
  rw [BitVec.toNat_xor, h1, h2, h3, show ∀ n : Int, IntKind.u64.wrap n = n % 18446744073709551616 from fun n => by simp [IntKind.wrap, IntKind.signed, IntKind.bits]]
  omega

theorem not_key (f : Nat → Bool) (k : Nat) : bits .xor .u64 18446744073709551615 (wd f k : Int) = ((wd (fun b => !f b) k : Nat) : Int) := by
  rw [bits_not _ (wd_lt f k), not_at]

theorem or_key (f g : Nat → Bool) (k : Nat) : bits .or .u64 (wd f k : Int) (wd g k : Int) = ((wd (fun b => f b || g b) k : Nat) : Int) := by
  rw [bits_or_u64_nat _ _ (wd_lt f k) (wd_lt g k), or_at]

/-- Bit i, as the program reads it. -/
theorem has_at (f : Nat → Bool) (k i : Nat) (hi : i < 64) : wd f k / 2 ^ i % 2 = (f (64 * k + i)).toNat := by
  have h := wd_bit f k i
  rw [Nat.testBit_eq_decide_div_mod_eq] at h
  simp only [hi, decide_true, Bool.true_and] at h
  have h2 : wd f k / 2 ^ i % 2 < 2 := Nat.mod_lt _ (by omega)
  rw [← h]
  by_cases e : wd f k / 2 ^ i % 2 = 1
  · simp [e]
  · simp [e]; omega

theorem has_key (f : Nat → Bool) (k i : Nat) (hi : i < 64) : (bits .and .u64 ((wd f k : Int) / 2 ^ i) 1 == 1) = f (64 * k + i) := by
  obtain ⟨e, _, _, _⟩ := pow_int i hi
  have hlt : wd f k / 2 ^ i < 18446744073709551616 := Nat.lt_of_le_of_lt (Nat.div_le_self _ _) (wd_lt f k)
  have h := has_at f k i hi
  rw [e, ← Int.natCast_ediv, show (1 : Int) = ((1 : Nat) : Int) from rfl, bits_and_u64_nat _ 1 hlt (by omega), Nat.and_one_is_mod, h]
  cases f (64 * k + i) <;> rfl

theorem half_at (f : Nat → Bool) (k i : Nat) (hi : i < 64) : wd f k / 2 ^ i = 2 * (wd f k / 2 ^ (i + 1)) + (f (64 * k + i)).toNat := by
  have h := has_at f k i hi
  have : wd f k / 2 ^ (i + 1) = wd f k / 2 ^ i / 2 := by rw [Nat.pow_succ, Nat.div_div_eq_div_mul]
  omega

theorem wd_gone (f : Nat → Bool) (k : Nat) : wd f k / 2 ^ 64 = 0 := Nat.div_eq_of_lt (wd_lt f k)

end Cls

end Go.Proofs.YtbnnobeahliffaaGreatDoor

namespace Go.Proofs.YtbnnobeahliffaaGreatDoor
namespace Cls

/-- How many of n places from o on f has. -/
def cb (f : Nat → Bool) : Nat → Nat → Nat
  | _, 0 => 0
  | o, n + 1 => (f o).toNat + cb f (o + 1) n
  termination_by _ n => n

theorem cb_add (f : Nat → Bool) (o m n : Nat) : cb f o (m + n) = cb f o m + cb f (o + m) n := by
  induction m generalizing o with
  | zero => simp [cb]
  | succ m ih => rw [show m + 1 + n = (m + n) + 1 by omega, cb, cb, ih, show o + 1 + m = o + (m + 1) by omega]; omega

theorem cb_le (f : Nat → Bool) (o n : Nat) : cb f o n ≤ n := by
  induction n generalizing o with
  | zero => simp [cb]
  | succ n ih => have := ih (o + 1); have h2 : (f o).toNat ≤ 1 := Bool.toNat_le (f o); rw [cb]; omega

theorem wb_add (f : Nat → Bool) (o m n : Nat) : wb f o (m + n) = wb f o m + 2 ^ m * wb f (o + m) n := by
  induction m generalizing o with
  | zero => simp [wb]
  | succ m ih =>
    rw [show m + 1 + n = (m + n) + 1 by omega, wb, wb, ih, show o + 1 + m = o + (m + 1) by omega, Nat.pow_succ, Nat.mul_add, ← Nat.mul_assoc, Nat.mul_comm (2 ^ m) 2]
    omega

/-- Bytes as a number. -/
def B : List Nat → Nat
  | [] => 0
  | r :: l => r + 256 * B l

theorem and_byte (r q c d : Nat) (hr : r < 256) (hc : c < 256) : (r + 256 * q) &&& (c + 256 * d) = (r &&& c) + 256 * (q &&& d) := by
  have hrc : r &&& c < 2 ^ 8 := Nat.and_lt_two_pow _ hc
  rw [show r + 256 * q = 2 ^ 8 * q + r by omega, show c + 256 * d = 2 ^ 8 * d + c by omega, show (r &&& c) + 256 * (q &&& d) = 2 ^ 8 * (q &&& d) + (r &&& c) by omega]
  apply Nat.eq_of_testBit_eq
  intro j
  rw [Nat.testBit_and, Nat.testBit_two_pow_mul_add _ (show r < 2 ^ 8 from hr), Nat.testBit_two_pow_mul_add _ (show c < 2 ^ 8 from hc), Nat.testBit_two_pow_mul_add _ hrc]
  by_cases h : j < 8
  · simp [h, Nat.testBit_and]
  · simp [h, Nat.testBit_and]

def s1 (r : Nat) : Nat := (r / 2 &&& 85) + (r &&& 85)

def s2 (r : Nat) : Nat := (r / 4 &&& 51) + (r &&& 51)

def s3 (r : Nat) : Nat := (r / 16 + r) % 16

theorem one_byte : ∀ r, r < 256 → s1 r < 256 ∧ s2 (s1 r) % 16 ≤ 4 ∧ s2 (s1 r) / 16 ≤ 4 ∧ s3 (s2 (s1 r)) = r % 2 + r / 2 % 2 + r / 4 % 2 + r / 8 % 2 + r / 16 % 2 + r / 32 % 2 + r / 64 % 2 + r / 128 % 2 := by decide +kernel

theorem d1 : ∀ r, r < 256 → ∀ e, e < 2 → ((r / 2 + 128 * e) &&& 85) = (r / 2 &&& 85) := by decide +kernel

theorem d2 : ∀ r, r < 256 → ∀ e, e < 4 → ((r / 4 + 64 * e) &&& 51) = (r / 4 &&& 51) := by decide +kernel

theorem step1 (l : List Nat) (hl : ∀ r, r ∈ l → r < 256) : (B l / 2 &&& B (List.replicate l.length 85)) + (B l &&& B (List.replicate l.length 85)) = B (l.map s1) := by
  induction l with
  | nil => rfl
  | cons r l ih =>
    have hr := hl r (by simp)
    have i1 := ih (fun x hx => hl x (by simp [hx]))
    simp only [List.length_cons, List.replicate_succ, List.map_cons, B]
    rw [show (r + 256 * B l) / 2 = (r / 2 + 128 * (B l % 2)) + 256 * (B l / 2) by omega, and_byte _ _ _ _ (by omega) (by omega), and_byte _ _ _ _ hr (by omega), d1 r hr _ (Nat.mod_lt _ (by omega)), ← i1]
    unfold s1
    omega

theorem step2 (l : List Nat) (hl : ∀ r, r ∈ l → r < 256) : (B l / 4 &&& B (List.replicate l.length 51)) + (B l &&& B (List.replicate l.length 51)) = B (l.map s2) := by
  induction l with
  | nil => rfl
  | cons r l ih =>
    have hr := hl r (by simp)
    have i1 := ih (fun x hx => hl x (by simp [hx]))
    simp only [List.length_cons, List.replicate_succ, List.map_cons, B]
    rw [show (r + 256 * B l) / 4 = (r / 4 + 64 * (B l % 4)) + 256 * (B l / 4) by omega, and_byte _ _ _ _ (by omega) (by omega), and_byte _ _ _ _ hr (by omega), d2 r hr _ (Nat.mod_lt _ (by omega)), ← i1]
    unfold s2
    omega

theorem low4 (l : List Nat) (hl : ∀ r, r ∈ l → r % 16 ≤ 4 ∧ r / 16 ≤ 4) : B l % 16 ≤ 4 := by
  cases l with
  | nil => simp [B]
  | cons r l => have := hl r (by simp); rw [B]; omega

theorem step3 (l : List Nat) (hl : ∀ r, r ∈ l → r % 16 ≤ 4 ∧ r / 16 ≤ 4) : (B l / 16 + B l) &&& B (List.replicate l.length 15) = B (l.map s3) := by
  induction l with
  | nil => rfl
  | cons r l ih =>
    have hr := hl r (by simp)
    have hl2 : ∀ x, x ∈ l → x % 16 ≤ 4 ∧ x / 16 ≤ 4 := fun x hx => hl x (by simp [hx])
    have i1 := ih hl2
    have h4 := low4 l hl2
    simp only [List.length_cons, List.replicate_succ, List.map_cons, B]
    rw [show (r + 256 * B l) / 16 + (r + 256 * B l) = (r / 16 + 16 * (B l % 16) + r) + 256 * (B l / 16 + B l) by omega, and_byte _ _ _ _ (by omega) (by omega), i1]
    have e1 : (r / 16 + 16 * (B l % 16) + r) &&& 15 = (r / 16 + 16 * (B l % 16) + r) % 16 := Nat.and_two_pow_sub_one_eq_mod _ 4
    rw [e1]
    unfold s3
    omega

theorem byte_cb (f : Nat → Bool) (o : Nat) : s3 (s2 (s1 (wb f o 8))) = cb f o 8 := by
  have hlt := wb_lt f o 8
  rw [(one_byte _ hlt).2.2.2]
  simp only [wb, cb]
  generalize f o = b0
  generalize f (o + 1) = b1
  generalize f (o + 1 + 1) = b2
  generalize f (o + 1 + 1 + 1) = b3
  generalize f (o + 1 + 1 + 1 + 1) = b4
  generalize f (o + 1 + 1 + 1 + 1 + 1) = b5
  generalize f (o + 1 + 1 + 1 + 1 + 1 + 1) = b6
  generalize f (o + 1 + 1 + 1 + 1 + 1 + 1 + 1) = b7
  clear hlt
  revert b0 b1 b2 b3 b4 b5 b6 b7
  decide +kernel

/-- The bytes of a word. -/
def by8 (f : Nat → Bool) (o : Nat) : List Nat := [wb f o 8, wb f (o + 8) 8, wb f (o + 16) 8, wb f (o + 24) 8, wb f (o + 32) 8, wb f (o + 40) 8, wb f (o + 48) 8, wb f (o + 56) 8]

theorem by8_B (f : Nat → Bool) (o : Nat) : B (by8 f o) = wb f o 64 := by
  have e : ∀ o n, wb f o (8 + n) = wb f o 8 + 256 * wb f (o + 8) n := fun o n => wb_add f o 8 n
  rw [show (64 : Nat) = 8 + (8 + (8 + (8 + (8 + (8 + (8 + (8 + 0))))))) from rfl]
  rw [e, e, e, e, e, e, e, e]
  simp only [by8, B, Nat.add_assoc, Nat.reduceAdd, wb]

theorem wb8 (f : Nat → Bool) (o : Nat) : wb f o 8 < 256 := wb_lt f o 8

theorem by8_lt (f : Nat → Bool) (o : Nat) : ∀ r, r ∈ by8 f o → r < 256 := by
  intro r hr
  have a := wb8 f
  simp only [by8, List.mem_cons, List.not_mem_nil, or_false] at hr
  generalize wb f = W at *
  rcases hr with h | h | h | h | h | h | h | h <;> (rw [h]; exact a _)

theorem B_le (c : Nat) : ∀ l : List Nat, (∀ r, r ∈ l → r ≤ c) → 255 * B l + c ≤ c * 256 ^ l.length
  | [], _ => by simp [B]
  | r :: l, hl => by
    have h1 := B_le c l (fun x hx => hl x (by simp [hx]))
    have h2 := hl r (by simp)
    rw [List.length_cons, Nat.pow_succ, ← Nat.mul_assoc, B]
    generalize c * 256 ^ l.length = t at *
    omega

theorem B8 (l : List Nat) (hn : l.length = 8) (hl : ∀ r, r ∈ l → r < 256) : B l < 18446744073709551616 := by
  have := B_le 255 l (fun r hr => by have := hl r hr; omega)
  rw [hn] at this
  omega

theorem B4 (l : List Nat) (hn : l.length = 8) (hl : ∀ r, r ∈ l → r % 16 ≤ 4 ∧ r / 16 ≤ 4) : B l ≤ 4919131752989213764 := by
  have := B_le 68 l (fun r hr => by have := hl r hr; omega)
  rw [hn] at this
  omega

theorem m85 : B (List.replicate 8 85) = 6148914691236517205 := by decide +kernel

theorem m51 : B (List.replicate 8 51) = 3689348814741910323 := by decide +kernel

theorem m15 : B (List.replicate 8 15) = 1085102592571150095 := by decide +kernel

theorem pop_list (l : List Nat) (hn : l.length = 8) (hlt : ∀ r, r ∈ l → r < 256) : ∃ x1 x2, (B l / 2 &&& 6148914691236517205) + (B l &&& 6148914691236517205) = x1 ∧ x1 < 18446744073709551616 ∧ (x1 / 4 &&& 3689348814741910323) + (x1 &&& 3689348814741910323) = x2 ∧ x2 / 16 + x2 < 18446744073709551616 ∧ (x2 / 16 + x2) &&& 1085102592571150095 = B (((l.map s1).map s2).map s3) := by
  have h1 := step1 l hlt
  rw [hn, m85] at h1
  have hl1 : ∀ r, r ∈ l.map s1 → r < 256 := by
    intro r hr
    obtain ⟨q, hq, rfl⟩ := List.mem_map.1 hr
    exact (one_byte q (hlt q hq)).1
  have h2 := step2 _ hl1
  rw [List.length_map, hn, m51] at h2
  have hl2 : ∀ r, r ∈ (l.map s1).map s2 → r % 16 ≤ 4 ∧ r / 16 ≤ 4 := by
    intro r hr
    obtain ⟨q', hq', rfl⟩ := List.mem_map.1 hr
    obtain ⟨q, hq, rfl⟩ := List.mem_map.1 hq'
    exact ⟨(one_byte q (hlt q hq)).2.1, (one_byte q (hlt q hq)).2.2.1⟩
  have h3 := step3 _ hl2
  rw [List.length_map, List.length_map, hn, m15] at h3
  have b1 := B8 (l.map s1) (by rw [List.length_map, hn]) hl1
  have b2 := B4 ((l.map s1).map s2) (by rw [List.length_map, List.length_map, hn]) hl2
  exact ⟨B (l.map s1), B ((l.map s1).map s2), h1, b1, h2, by omega, h3⟩

theorem cb8 (f : Nat → Bool) (o : Nat) : cb f o 8 + cb f (o + 8) 8 + cb f (o + 16) 8 + cb f (o + 24) 8 + cb f (o + 32) 8 + cb f (o + 40) 8 + cb f (o + 48) 8 + cb f (o + 56) 8 = cb f o 64 := by
  have e : ∀ o n, cb f o (8 + n) = cb f o 8 + cb f (o + 8) n := fun o n => cb_add f o 8 n
  have z : ∀ o, cb f o 0 = 0 := fun o => by simp [cb]
  rw [show (64 : Nat) = 8 + (8 + (8 + (8 + (8 + (8 + (8 + (8 + 0))))))) from rfl]
  rw [e, e, e, e, e, e, e, e, z]
  generalize cb f = C
  simp only [Nat.add_assoc, Nat.reduceAdd]
  omega

/-- The number of bits by sums of fields. -/
theorem pop3 (f : Nat → Bool) (k : Nat) : ∃ x1 x2 x3, (wd f k / 2 &&& 6148914691236517205) + (wd f k &&& 6148914691236517205) = x1 ∧ x1 < 18446744073709551616 ∧ (x1 / 4 &&& 3689348814741910323) + (x1 &&& 3689348814741910323) = x2 ∧ x2 / 16 + x2 < 18446744073709551616 ∧ (x2 / 16 + x2) &&& 1085102592571150095 = x3 ∧
    ∃ p0 p1 p2 p3 p4 p5 p6 p7, x3 = p0 + 256 * (p1 + 256 * (p2 + 256 * (p3 + 256 * (p4 + 256 * (p5 + 256 * (p6 + 256 * p7)))))) ∧ p0 ≤ 8 ∧ p1 ≤ 8 ∧ p2 ≤ 8 ∧ p3 ≤ 8 ∧ p4 ≤ 8 ∧ p5 ≤ 8 ∧ p6 ≤ 8 ∧ p7 ≤ 8 ∧ p0 + p1 + p2 + p3 + p4 + p5 + p6 + p7 = cb f (64 * k) 64 := by
  obtain ⟨x1, x2, h1, h2, h3, h4, h5⟩ := pop_list (by8 f (64 * k)) rfl (by8_lt f (64 * k))
  have e0 : B (by8 f (64 * k)) = wd f k := by8_B f (64 * k)
  rw [e0] at h1
  have hc := cb8 f (64 * k)
  have hp : B ((((by8 f (64 * k)).map s1).map s2).map s3) = cb f (64 * k) 8 + 256 * (cb f (64 * k + 8) 8 + 256 * (cb f (64 * k + 16) 8 + 256 * (cb f (64 * k + 24) 8 + 256 * (cb f (64 * k + 32) 8 + 256 * (cb f (64 * k + 40) 8 + 256 * (cb f (64 * k + 48) 8 + 256 * cb f (64 * k + 56) 8)))))) := by
    have hb := byte_cb f
    simp only [by8, List.map_cons, List.map_nil, B, hb]
    omega
  have l8 : ∀ o, cb f o 8 ≤ 8 := fun o => cb_le f o 8
  generalize cb f = C at *
  exact ⟨x1, x2, _, h1, h2, h3, h4, h5, _, _, _, _, _, _, _, _, hp, l8 _, l8 _, l8 _, l8 _, l8 _, l8 _, l8 _, l8 _, hc⟩

theorem pop_end (p0 p1 p2 p3 p4 p5 p6 p7 x3 : Nat) (hx : x3 = p0 + 256 * (p1 + 256 * (p2 + 256 * (p3 + 256 * (p4 + 256 * (p5 + 256 * (p6 + 256 * p7))))))) (h0 : p0 ≤ 8) (h1 : p1 ≤ 8) (h2 : p2 ≤ 8) (h3 : p3 ≤ 8) (h4 : p4 ≤ 8) (h5 : p5 ≤ 8) (h6 : p6 ≤ 8) (h7 : p7 ≤ 8) :
    ∃ x4 x5 x6, x3 + x3 / 256 = x4 ∧ x4 < 18446744073709551616 ∧ x4 + x4 / 65536 = x5 ∧ x5 < 18446744073709551616 ∧ x5 + x5 / 4294967296 = x6 ∧ x6 < 9223372036854775808 ∧ x6 % 128 = p0 + p1 + p2 + p3 + p4 + p5 + p6 + p7 := by
  obtain ⟨z6, e6⟩ : ∃ z, z = p6 + 256 * p7 := ⟨_, rfl⟩
  obtain ⟨z5, e5⟩ : ∃ z, z = p5 + 256 * z6 := ⟨_, rfl⟩
  obtain ⟨z4, e4⟩ : ∃ z, z = p4 + 256 * z5 := ⟨_, rfl⟩
  obtain ⟨z3, e3⟩ : ∃ z, z = p3 + 256 * z4 := ⟨_, rfl⟩
  obtain ⟨z2, e2⟩ : ∃ z, z = p2 + 256 * z3 := ⟨_, rfl⟩
  obtain ⟨z1, e1⟩ : ∃ z, z = p1 + 256 * z2 := ⟨_, rfl⟩
  have b6 : z6 ≤ 2056 := by omega
  have b5 : z5 ≤ 526344 := by omega
  have b4 : z4 ≤ 134744072 := by omega
  have b3 : z3 ≤ 34494482440 := by omega
  have b2 : z2 ≤ 8830587504648 := by omega
  have b1 : z1 ≤ 2260630401189896 := by omega
  have hx' : x3 = p0 + 256 * z1 := by rw [hx, e1, e2, e3, e4, e5, e6]
  clear hx
  have b0 : x3 ≤ 578721382704613384 := by omega
  have q1 : x3 / 256 = z1 := by clear e1 e2 e3 e4 e5 e6; omega
  rw [q1]
  obtain ⟨x4, d4⟩ : ∃ z, x3 + z1 = z := ⟨_, rfl⟩
  have f4 : x4 = (p0 + p1 + 256 * (p1 + p2)) + 65536 * (z2 + z3) := by rw [← d4, hx', e1, e2]; clear e1 e2 e3 e4 e5 e6 b1 b2 b3 b4 b5 b6; omega
  have q2 : x4 / 65536 = z2 + z3 := by rw [f4]; clear f4 d4 hx' q1 e1 e2 e3 e4 e5 e6; omega
  obtain ⟨x5, d5⟩ : ∃ z, x4 + (z2 + z3) = z := ⟨_, rfl⟩
  have f5 : x5 = (p0 + p1 + p2 + p3 + 256 * (p1 + p2 + p3 + p4) + 65536 * (p2 + p3 + p4 + p5) + 16777216 * (p3 + p4 + p5 + p6)) + 4294967296 * (z4 + z5 + z6 + p7) := by
    rw [← d5, f4, e2, e3, e4, e5, e6]; clear f4 d4 d5 hx' q1 q2 e1 e2 e3 e4 e5 e6 b1 b2 b3 b4 b5 b6 b0 h0 h1 h2 h3 h4 h5 h6 h7; omega
  have q3 : x5 / 4294967296 = z4 + z5 + z6 + p7 := by rw [f5]; clear f5 d5 q2 f4 d4 hx' q1 e1 e2 e3 e4 e5 e6; omega
  refine ⟨x4, x5, x5 + (z4 + z5 + z6 + p7), d4, ?_, by rw [q2]; exact d5, ?_, by rw [q3], ?_, ?_⟩
  · clear f4 f5; omega
  · clear f4 f5 e1 e2 e3 e4 e5 e6; omega
  · clear f4 f5 e1 e2 e3 e4 e5 e6; omega
  · rw [f5, e4, e5, e6]; clear f5 d5 q2 q3 f4 d4 hx' q1 e1 e2 e3 e4 e5 e6 b1 b2 b3 b4 b5 b6 b0; omega

end Cls

end Go.Proofs.YtbnnobeahliffaaGreatDoor

namespace Go.Proofs.YtbnnobeahliffaaGreatDoor
open Go.RowKit
namespace Cls

theorem undrew {B : Nat} {a w : World} (h : Below B a.drew w) : Below B a w := ⟨h.os, h.tape, h.output, h.size, h.block⟩

def r4 (x y z u : Int) : Nat → Int := fun t => if t = 0 then x else if t = 1 then y else if t = 2 then z else u

theorem fam_box4 (w : World) (x y z u : Int) (ty : TypeId) : Fam (w.alloc (.cells #[.int .u64 x, .int .u64 y, .int .u64 z, .int .u64 u] ty)) w.heap.size 0 4 (r4 x y z u) := by
  intro t ht
  have hb : (w.alloc (.cells #[.int .u64 x, .int .u64 y, .int .u64 z, .int .u64 u] ty)).heap[w.heap.size]? = some (.cells #[.int .u64 x, .int .u64 y, .int .u64 z, .int .u64 u] ty) := by show (w.heap.push _)[w.heap.size]? = _; simp
  unfold World.cell?
  rw [hb, Nat.zero_add]
  match t, ht with
  | 0, _ => rfl
  | 1, _ => rfl
  | 2, _ => rfl
  | 3, _ => rfl

theorem wrt_box4 (w : World) (x y z u : Int) (ty : TypeId) : Wrt (w.alloc (.cells #[.int .u64 x, .int .u64 y, .int .u64 z, .int .u64 u] ty)) w.heap.size 0 4 := by
  intro t _
  have hb : (w.alloc (.cells #[.int .u64 x, .int .u64 y, .int .u64 z, .int .u64 u] ty)).heap[w.heap.size]? = some (.cells #[.int .u64 x, .int .u64 y, .int .u64 z, .int .u64 u] ty) := by show (w.heap.push _)[w.heap.size]? = _; simp
  unfold World.frozen?
  rw [hb]
  simp

theorem r4_wi (f : Nat → Bool) : ∀ t, t < 4 → r4 (wd f 0) (wd f 1) (wd f 2) (wd f 3) t = wi f t := fun t ht => by
  unfold r4 wi
  generalize wd f = W
  match t, ht with
  | 0, _ => rfl
  | 1, _ => rfl
  | 2, _ => rfl
  | 3, _ => rfl

theorem r4_zero : ∀ t, t < 4 → r4 0 0 0 0 t = wi (fun _ => false) t := fun t ht => by
  have : wi (fun _ => false) t = 0 := by unfold wi; rw [wd_none]; rfl
  rw [this]
  unfold r4
  simp

/-- A new box, and what is known of it: it holds the set f. -/
structure Box (w v : World) (o : Obj) (f : Nat → Bool) : Prop where
  eq : v = w.alloc o
  fam : Fam v w.heap.size 0 4 (wi f)
  wrt : Wrt v w.heap.size 0 4
  bel : Below w.heap.size w v
  size : v.heap.size = w.heap.size + 1

theorem box (w : World) (f : Nat → Bool) : ∃ v, Box w v (.cells #[.int .u64 ((wd (f) 0 : Nat) : Int), .int .u64 ((wd (f) 1 : Nat) : Int), .int .u64 ((wd (f) 2 : Nat) : Int), .int .u64 ((wd (f) 3 : Nat) : Int)] 67) f :=
  ⟨_, rfl, (fam_box4 _ _ _ _ _ _).congr (r4_wi f), wrt_box4 _ _ _ _ _ _, (Below.refl _ _).alloc (Nat.le_refl _) _, by show (w.heap.push _).size = _; simp⟩

/-- The same over any four numbers: what the walk needs of it. -/
theorem boxW (w : World) (W : Nat → Nat) : ∃ v, v = w.alloc (.cells #[.int .u64 ((W 0 : Nat) : Int), .int .u64 ((W 1 : Nat) : Int), .int .u64 ((W 2 : Nat) : Int), .int .u64 ((W 3 : Nat) : Int)] 67) ∧ Below w.heap.size w v ∧ v.heap.size = w.heap.size + 1 ∧ Fam v w.heap.size 0 4 (fun k => ((W k : Nat) : Int)) :=
  ⟨_, rfl, (Below.refl _ _).alloc (Nat.le_refl _) _, by show (w.heap.push _).size = _; simp, (fam_box4 _ _ _ _ _ _).congr (fun t ht => by
    match t, ht with
    | 0, _ => rfl
    | 1, _ => rfl
    | 2, _ => rfl
    | 3, _ => rfl)⟩

theorem box0 (w : World) : ∃ v, Box w v (.cells #[.int .u64 0, .int .u64 0, .int .u64 0, .int .u64 0] 67) (fun _ => false) :=
  ⟨_, rfl, (fam_box4 _ _ _ _ _ _).congr r4_zero, wrt_box4 _ _ _ _ _ _, (Below.refl _ _).alloc (Nat.le_refl _) _, by show (w.heap.push _).size = _; simp⟩

/-- The four cells. -/
theorem c4 {w : World} {b : Nat} {f : Nat → Bool} (h : Fam w b 0 4 (wi f)) : w.cell? ⟨b, 0, none⟩ = some (.int .u64 (wd f 0 : Nat)) ∧ w.cell? ⟨b, 1, none⟩ = some (.int .u64 (wd f 1 : Nat)) ∧ w.cell? ⟨b, 2, none⟩ = some (.int .u64 (wd f 2 : Nat)) ∧ w.cell? ⟨b, 3, none⟩ = some (.int .u64 (wd f 3 : Nat)) :=
  ⟨h.zero 0 (by omega), h.zero 1 (by omega), h.zero 2 (by omega), h.zero 3 (by omega)⟩

theorem f4 {w : World} {b : Nat} (h : Wrt w b 0 4) : w.frozen? ⟨b, 0, none⟩ = false ∧ w.frozen? ⟨b, 1, none⟩ = false ∧ w.frozen? ⟨b, 2, none⟩ = false ∧ w.frozen? ⟨b, 3, none⟩ = false := ⟨h.zero 0 (by omega), h.zero 1 (by omega), h.zero 2 (by omega), h.zero 3 (by omega)⟩

/-- Four cells, written. -/
def set4 (v : World) (b : Nat) (f : Nat → Bool) : World := (((v.setCell ⟨b, 0, none⟩ (.int .u64 (wd f 0 : Nat))).setCell ⟨b, 1, none⟩ (.int .u64 (wd f 1 : Nat))).setCell ⟨b, 2, none⟩ (.int .u64 (wd f 2 : Nat))).setCell ⟨b, 3, none⟩ (.int .u64 (wd f 3 : Nat))

theorem set4_fam {v : World} {b : Nat} {F : Nat → Int} (hF : Fam v b 0 4 F) (f : Nat → Bool) : Fam (set4 v b f) b 0 4 (wi f) :=
  ((((hF.setCell_at (j := 0) (by omega) rfl _).setCell_at (j := 1) (by omega) rfl _).setCell_at (j := 2) (by omega) rfl _).setCell_at (j := 3) (by omega) rfl _).congr (fun t ht => by
    unfold wi
    generalize wd f = W
    match t, ht with
    | 0, _ => rfl
    | 1, _ => rfl
    | 2, _ => rfl
    | 3, _ => rfl)

theorem set4_wrt {v : World} {b b' n : Nat} (h : Wrt v b' 0 n) (f : Nat → Bool) : Wrt (set4 v b f) b' 0 n := (((h.setCell _ _).setCell _ _).setCell _ _).setCell _ _

theorem set4_wrote {v : World} {b : Nat} (f : Nat → Bool) : Wrote (fun b' _ => b' = b) v (set4 v b f) := ((((Wrote.refl (fun b' _ => b' = b) v).setCell rfl _).setCell rfl _).setCell rfl _).setCell rfl _

theorem set4_below {B : Nat} {w v : World} (h : Below B w v) {b : Nat} (hb : B ≤ b) (f : Nat → Bool) : Below B w (set4 v b f) := h.trans ((set4_wrote f).below (fun b' o e => by omega))

/-- An array result: what stands in its variable. -/
theorem results_box4 {fn : Func} {p : Tmp} (h : fn.results = #[.cell p 67]) (tmps : Array Value) (v : World) (b : Nat) (f : Nat → Bool) (hp : tmps.getD p undef = .pointer (some ⟨b, 0, none⟩)) (hF : Fam v b 0 4 (wi f)) :
    (results fn tmps).run Tryz.prog v = .ok (.agg #[.int .u64 ((wd (f) 0 : Nat) : Int), .int .u64 ((wd (f) 1 : Nat) : Int), .int .u64 ((wd (f) 2 : Nat) : Int), .int .u64 ((wd (f) 3 : Nat) : Int)]) v := by
  have hp' : tmps[p]?.getD undef = .pointer (some ⟨b, 0, none⟩) := by simpa using hp
  obtain ⟨c0, c1, c2, c3⟩ := c4 hF
  simp [results, h, hp', asAddr, go_sem, c0, c1, c2, c3]

theorem results_set4 {fn : Func} {p : Tmp} (h : fn.results = #[.cell p 67]) (tmps : Array Value) (v : World) (b : Nat) (f : Nat → Bool) (hp : tmps.getD p undef = .pointer (some ⟨b, 0, none⟩)) {F : Nat → Int} (hF : Fam v b 0 4 F) :
    (results fn tmps).run Tryz.prog (set4 v b f) = .ok (.agg #[.int .u64 ((wd (f) 0 : Nat) : Int), .int .u64 ((wd (f) 1 : Nat) : Int), .int .u64 ((wd (f) 2 : Nat) : Int), .int .u64 ((wd (f) 3 : Nat) : Int)]) (set4 v b f) :=
  results_box4 h tmps _ b f hp (set4_fam hF f)

theorem get4 (f : Nat → Bool) (k : Nat) (hk : k < 4) (h : k < ([.int .u64 ((wd f 0 : Nat) : Int), .int .u64 ((wd f 1 : Nat) : Int), .int .u64 ((wd f 2 : Nat) : Int), .int .u64 ((wd f 3 : Nat) : Int)] : List Value).length) : ([.int .u64 ((wd f 0 : Nat) : Int), .int .u64 ((wd f 1 : Nat) : Int), .int .u64 ((wd f 2 : Nat) : Int), .int .u64 ((wd f 3 : Nat) : Int)] : List Value)[k]'h = .int .u64 ((wd f k : Nat) : Int) := by
  generalize wd f = W at *
  match k, hk with
  | 0, _ => rfl
  | 1, _ => rfl
  | 2, _ => rfl
  | 3, _ => rfl

end Cls

end Go.Proofs.YtbnnobeahliffaaGreatDoor

namespace Go.Proofs.YtbnnobeahliffaaGreatDoor
open Go.RowKit
namespace Cls

/-- The first n cells of block b hold V. -/
def Fv (w : World) (b n : Nat) (V : Nat → Value) : Prop := ∀ t, t < n → w.cell? ⟨b, t, none⟩ = some (V t)

theorem Fv.below {B : Nat} {w w' : World} {b n : Nat} {V : Nat → Value} (h : Fv w b n V) (hb : Below B w w') (hB : b < B) : Fv w' b n V := fun t ht => (hb.cell (p := ⟨b, t, none⟩) hB).trans (h t ht)

theorem Fv.lt {w : World} {b n : Nat} {V : Nat → Value} (h : Fv w b n V) (hn : 0 < n) : b < w.heap.size := World.block_lt_of_cell? w _ (h 0 hn)

theorem Fv.wrote {S : Nat → Nat → Prop} {a w : World} {b n : Nat} {V : Nat → Value} (hf : Fv a b n V) (h : Wrote S a w) (hS : ∀ t, t < n → ¬ S b t) : Fv w b n V := fun t ht => (h.cell b t (hS t ht)).trans (hf t ht)

def updV (V : Nat → Value) (j : Nat) (x : Value) : Nat → Value := fun t => if t = j then x else V t

theorem Fv.set {w : World} {b n : Nat} {V : Nat → Value} (h : Fv w b n V) {j : Nat} (hj : j < n) (x : Value) : Fv (w.setCell ⟨b, j, none⟩ x) b n (updV V j x) := by
  intro t ht
  unfold updV
  by_cases e : t = j
  · subst e; rw [if_pos rfl, World.cell?_setCell_same _ _ _ (h t ht)]
  · rw [if_neg e, cell_setCell_ne _ _ _ _ _ _ (Or.inr e)]; exact h t ht

theorem Fv.congr {w : World} {b n : Nat} {V U : Nat → Value} (h : Fv w b n V) (e : ∀ t, t < n → V t = U t) : Fv w b n U := fun t ht => by rw [← e t ht]; exact h t ht

theorem fv_made (w : World) (z : Value) (n : Nat) (t : TypeId) : Fv (w.alloc (.cells (madeCells #[z] n) t)) w.heap.size n (fun _ => z) := by
  obtain ⟨c, hb, hn, hc⟩ := World.rowIs_made w z n t
  intro i hi
  unfold World.cell?
  rw [hb]
  exact hc i hi

theorem wv_made (w : World) (z : Value) (n : Nat) (t : TypeId) : Wrt (w.alloc (.cells (madeCells #[z] n) t)) w.heap.size 0 n := by
  obtain ⟨c, hb, hn, hc⟩ := World.rowIs_made w z n t
  intro i hi
  unfold World.frozen?
  rw [hb]
  simp

/-- A row of bools. -/
def bo (f : Nat → Bool) (t : Nat) : Value := .bool (f t)

def cbs (f : Nat → Bool) (j : Nat) : List Value := (List.range j).map (bo f)

theorem cbs_succ (f : Nat → Bool) (j : Nat) : cbs f (j + 1) = cbs f j ++ [.bool (f j)] := by unfold cbs; rw [List.range_succ, List.map_append]; rfl

def OwnB (w : World) (B : Nat) (v : Value) (j : Nat) (f : Nat → Bool) : Prop := w.ownsRow B 4 1 v j (cbs f j)

theorem grow_below {w wr w1 : World} {B j size : Nat} {e : TypeId} {v : Value} {xs : List Value} {ob : Obj} (hB : B ≤ wr.heap.size) (hb : Below B w wr) (hown : wr.ownsRow B e size v j xs) (hg : (wr.alloc ob).grownBy w1 v.ownBlock) : Below B w w1 := by
  refine (hb.alloc hB ob).grown hg ?_ ?_
  · show B ≤ (wr.heap.push _).size
    simp; omega
  · intro k hk
    obtain ⟨_, ⟨e, _⟩ | ⟨g, cap, cur, hv, hgB, _⟩⟩ := hown
    · subst e; simp [Value.ownBlock] at hk
    · subst hv; simp [Value.ownBlock] at hk; omega

theorem owns_cells {w : World} {B n size : Nat} {e : TypeId} {v : Value} {xs : List Value} (h : w.ownsRow B e size v n xs) (hn : 1 ≤ n) :
    ∃ g cap, v = .slice (some ⟨g, 0, none⟩) n cap ∧ n ≤ cap ∧ B ≤ g ∧ g < w.heap.size ∧ (∀ t, t < n * size → w.cell? ⟨g, t, none⟩ = xs[t]?) ∧ (∀ t, w.frozen? ⟨g, t, none⟩ = false) := by
  obtain ⟨hl, h | ⟨g, cap, cur, hv, hg, hb, hc, hm, hs, ht⟩⟩ := h
  · omega
  refine ⟨g, cap, hv, hc, hg, ?_, ?_, ?_⟩
  · rcases Nat.lt_or_ge g w.heap.size with h0 | h0
    · exact h0
    · rw [Array.getElem?_eq_none h0] at hb; cases hb
  · intro t htn
    unfold World.cell?
    rw [hb]
    show cur[t]? = _
    have := congrArg (fun l : List Value => l[t]?) ht
    simp only [List.getElem?_take, htn, if_true, Array.getElem?_toList] at this
    exact this
  · intro t
    unfold World.frozen?
    rw [hb]
    simp

theorem ownB_fam {w : World} {B n : Nat} {v : Value} {f : Nat → Bool} (h : OwnB w B v n f) (hn : 1 ≤ n) :
    ∃ g cap, v = .slice (some ⟨g, 0, none⟩) n cap ∧ B ≤ g ∧ g < w.heap.size ∧ Fv w g n (bo f) ∧ Wrt w g 0 n := by
  obtain ⟨g, cap, hv, _, hg, hlt, hc, hf⟩ := owns_cells h hn
  refine ⟨g, cap, hv, hg, hlt, fun t ht => ?_, fun t _ => hf _⟩
  rw [hc t (by omega)]
  simp [cbs, ht]

theorem owns_below {w w' : World} {B n size C : Nat} {e : TypeId} {v : Value} {xs : List Value} (h : w.ownsRow B e size v n xs) (hb : Below C w w') (hC : w.heap.size ≤ C) : w'.ownsRow B e size v n xs := by
  obtain ⟨hl, h | ⟨g, cap, cur, hv, hg, hbk, hc, hm, hs, ht⟩⟩ := h
  · exact ⟨hl, Or.inl h⟩
  · have hlt : g < w.heap.size := by
      rcases Nat.lt_or_ge g w.heap.size with h0 | h0
      · exact h0
      · rw [Array.getElem?_eq_none h0] at hbk; cases hbk
    exact ⟨hl, Or.inr ⟨g, cap, cur, hv, hg, by rw [hb.block g (by omega)]; exact hbk, hc, hm, hs, ht⟩⟩

end Cls

end Go.Proofs.YtbnnobeahliffaaGreatDoor

namespace Go.Proofs.YtbnnobeahliffaaGreatDoor
open Go.RowKit
namespace Cls

set_option maxHeartbeats 1000000 in
theorem has_any (f : Nat → Bool) (b : Nat) (hb : b < 256) (w : World) :
    Calls Tryz.prog 125 #[.agg #[.int .u64 ((wd (f) 0 : Nat) : Int), .int .u64 ((wd (f) 1 : Nat) : Int), .int .u64 ((wd (f) 2 : Nat) : Int), .int .u64 ((wd (f) 3 : Nat) : Int)], .int .u8 b] w fun e w' => e = .returned (.bool (f b)) ∧ Below w.heap.size w w' := by
  obtain ⟨k, hk⟩ : ∃ k, b / 64 = k := ⟨_, rfl⟩
  obtain ⟨i, hi⟩ : ∃ i, b % 64 = i := ⟨_, rfl⟩
  have hk4 : k < 4 := by omega
  have hi64 : i < 64 := by omega
  have hq : (b : Int) / 64 = (k : Int) := by omega
  have hr : (b : Int) % 64 = (i : Int) := by omega
  obtain ⟨w1, b1⟩ := box w f
  have E1 : Hid _ := b1.eq
  have B1 : Hid _ := b1.bel
  have hck : w1.cell? ⟨w.heap.size, k, none⟩ = some (.int .u64 (wd f k : Nat)) := b1.fam.zero k hk4
  clear b1
  go_enter Tryz.func125, Tryz.ntmps125
  go_wp2_with (first | rw [← E1.out] | simp only [get4 f k hk4])
  go_ret
  refine ⟨?_, B1.out⟩
  have hk2 := has_key f k i hi64
  rw [show 64 * k + i = b by omega] at hk2
  show Ending.returned (Value.bool (bits BinOp.and IntKind.u64 (((wd f k : Nat) : Int) / 2 ^ i) 1 == 1)) = _
  rw [hk2]

set_option maxHeartbeats 1000000 in
theorem with_any (f : Nat → Bool) (b : Nat) (hb : b < 256) (w : World) :
    Calls Tryz.prog 55 #[.agg #[.int .u64 ((wd (f) 0 : Nat) : Int), .int .u64 ((wd (f) 1 : Nat) : Int), .int .u64 ((wd (f) 2 : Nat) : Int), .int .u64 ((wd (f) 3 : Nat) : Int)], .int .u8 b] w fun e w' => e = .returned (.agg #[.int .u64 ((wd (ins f b) 0 : Nat) : Int), .int .u64 ((wd (ins f b) 1 : Nat) : Int), .int .u64 ((wd (ins f b) 2 : Nat) : Int), .int .u64 ((wd (ins f b) 3 : Nat) : Int)]) ∧ Below w.heap.size w w' := by
  obtain ⟨k, hk⟩ : ∃ k, b / 64 = k := ⟨_, rfl⟩
  obtain ⟨i, hi⟩ : ∃ i, b % 64 = i := ⟨_, rfl⟩
  have hk4 : k < 4 := by omega
  have hi64 : i < 64 := by omega
  have hq : (b : Int) / 64 = (k : Int) := by omega
  have hr : (b : Int) % 64 = (i : Int) := by omega
  have hw := wrap_pow i hi64
  have hor : bits .or .u64 (wd f k : Nat) ((2 : Int) ^ i) = ((wd (ins f b) k : Nat) : Int) := by
    obtain ⟨e, _, _, h⟩ := pow_int i hi64
    rw [e, bits_or_u64_nat _ _ (wd_lt f k) h, ins_at f k i hi64, show 64 * k + i = b by omega]
  obtain ⟨w1, b1⟩ := box w f
  obtain ⟨w2, b2⟩ := box0 w1
  have E1 : Hid _ := b1.eq
  have E2 : Hid _ := b2.eq
  have s1 : w.heap.size < w1.heap.size := by have := b1.size; omega
  have B2 : Hid (Below w.heap.size w w2) := b1.bel.trans (b2.bel.mono b1.bel.size)
  have F2 : Fam w2 w.heap.size 0 4 (wi f) := b1.fam.below b2.bel s1
  have W2 : Wrt w2 w.heap.size 0 4 := b1.wrt.below b2.bel s1
  have hck : w2.cell? ⟨w.heap.size, k, none⟩ = some (.int .u64 (wd f k : Nat)) := F2.zero k hk4
  have hfk : w2.frozen? ⟨w.heap.size, k, none⟩ = false := W2.zero k hk4
  have F3 : Fam (w2.setCell ⟨w.heap.size, k, none⟩ (.int .u64 (wd (ins f b) k : Nat))) w.heap.size 0 4 (wi (ins f b)) := (F2.setCell_at hk4 (by omega) _).congr (fun t _ => by
    by_cases e : t = k
    · subst e; rw [upd_at]; rfl
    · rw [upd_off e]; unfold wi; rw [show b = 64 * k + i by omega, ins_off f k i t hi64 e])
  have R3 : Hid (Fam (w2.setCell ⟨w.heap.size, k, none⟩ (.int .u64 (wd (ins f b) k : Nat))) w1.heap.size 0 4 (wi (fun _ => false))) := b2.fam.setCell_ne (by omega) _
  have V3 : Wrt (w2.setCell ⟨w.heap.size, k, none⟩ (.int .u64 (wd (ins f b) k : Nat))) w1.heap.size 0 4 := b2.wrt.setCell _ _
  have B3 : Hid (Below w.heap.size w (w2.setCell ⟨w.heap.size, k, none⟩ (.int .u64 (wd (ins f b) k : Nat)))) := B2.out.trans (((Wrote.refl (fun b' _ => b' = w.heap.size) w2).setCell rfl _).below (fun b' o e => by omega))
  obtain ⟨a0, a1, a2, a3⟩ := c4 F3
  obtain ⟨z0, z1, z2, z3⟩ := c4 R3.out
  obtain ⟨f0, f1, f2, f3⟩ := f4 V3
  have HS : Hid (w.heap.size + 1 = w1.heap.size) := b1.size.symm
  clear b1 b2 F2 W2 F3 V3
  generalize w1.heap.size = g at *
  go_enter Tryz.func55, Tryz.ntmps55
  go_wp2_with (first | rw [← E1.out, ← E2.out, HS.out] | simp only [get4 f k hk4, hw, hor])
  refine bodyPost_ret (results_set4 rfl _ _ g (ins f b) rfl R3.out) rfl ?_
  exact ⟨rfl, set4_below B3.out (by omega) _⟩

end Cls

end Go.Proofs.YtbnnobeahliffaaGreatDoor

namespace Go.Proofs.YtbnnobeahliffaaGreatDoor
open Go.RowKit
namespace Cls

set_option maxHeartbeats 1000000 in
theorem not_any (f : Nat → Bool) (w : World) :
    Calls Tryz.prog 110 #[.agg #[.int .u64 ((wd (f) 0 : Nat) : Int), .int .u64 ((wd (f) 1 : Nat) : Int), .int .u64 ((wd (f) 2 : Nat) : Int), .int .u64 ((wd (f) 3 : Nat) : Int)]] w fun e w' => e = .returned (.agg #[.int .u64 ((wd (fun b => !f b) 0 : Nat) : Int), .int .u64 ((wd (fun b => !f b) 1 : Nat) : Int), .int .u64 ((wd (fun b => !f b) 2 : Nat) : Int), .int .u64 ((wd (fun b => !f b) 3 : Nat) : Int)]) ∧ Below w.heap.size w w' := by
  obtain ⟨w1, b1⟩ := box w f
  obtain ⟨w2, b2⟩ := box0 w1
  have E1 : Hid _ := b1.eq
  have E2 : Hid _ := b2.eq
  have s1 : w.heap.size < w1.heap.size := by have := b1.size; omega
  have B2 : Hid (Below w.heap.size w w2) := b1.bel.trans (b2.bel.mono b1.bel.size)
  have F0 : Hid (Fill w2 w2 w.heap.size 4 0 (wi (fun b => !f b)) (wi f)) := Fill.start _ (b1.fam.below b2.bel s1) (b1.wrt.below b2.bel s1)
  have RF : Hid (Fam w2 w1.heap.size 0 4 (wi (fun _ => false))) := b2.fam
  have RW : Hid (Wrt w2 w1.heap.size 0 4) := b2.wrt
  have HS : Hid (w.heap.size + 1 = w1.heap.size) := b1.size.symm
  have HK : Hid (∀ k, bits .xor .u64 18446744073709551615 (wd f k : Int) = wi (fun b => !f b) k) := fun k => not_key f k
  clear b1 b2
  generalize w1.heap.size = g at *
  go_enter Tryz.func110, Tryz.ntmps110
  go_wp2_with fail
  rw [← E1.out, ← E2.out, HS.out]
  clear E1 E2 HS
  go_loopw [4] (fun vk wr => ∃ k : Nat, k ≤ 4 ∧ vk = .int .i64 k ∧ Fill w2 wr w.heap.size 4 k (wi (fun b => !f b)) (wi f)) (fun vk _ => 4 - (intOf vk).toNat)
  case atStart => exact ⟨0, Nat.zero_le _, rfl, F0.out⟩
  case round =>
    obtain ⟨k, hk, rfl, hF⟩ := hrel
    by_cases hk4 : k < 4
    · have hc : wr.cell? ⟨w.heap.size, k, none⟩ = some (.int .u64 (wd f k : Nat)) := by
        have := hF.fam.zero k hk4
        rwa [mix_hi (Nat.le_refl k)] at this
      have hf := hF.wrt.zero k hk4
      have hstep : Hid _ := hF.step hk4 (HK.out k)
      clear hF
      go_wp2_with fail
      go_roundw
      case rel => exact ⟨k + 1, by omega, by go_num, hstep.out⟩
      case measure => simp [intOf]; omega
    · obtain rfl : k = 4 := by omega
      have FN := hF.fin (Nat.le_refl 4)
      have hbel : Hid (Below w.heap.size w wr) := B2.out.trans (hF.wrote.below (fun b o e => by omega))
      have FZ : Hid (Fam wr g 0 4 (wi (fun _ => false))) := hF.wrote.fam RF.out (fun t _ e => by omega)
      obtain ⟨q0, q1, q2, q3⟩ := c4 FN
      obtain ⟨z0, z1, z2, z3⟩ := c4 FZ.out
      obtain ⟨f0, f1, f2, f3⟩ := f4 (hF.wrote.wrt RW.out)
      clear hF FN
      go_wp2_with fail
      refine bodyPost_ret (results_set4 rfl _ wr g (fun b => !f b) rfl FZ.out) rfl ?_
      exact ⟨rfl, set4_below hbel.out (by omega) _⟩

set_option maxHeartbeats 1000000 in
theorem or_any (f g : Nat → Bool) (w : World) :
    Calls Tryz.prog 113 #[.agg #[.int .u64 ((wd (f) 0 : Nat) : Int), .int .u64 ((wd (f) 1 : Nat) : Int), .int .u64 ((wd (f) 2 : Nat) : Int), .int .u64 ((wd (f) 3 : Nat) : Int)], .agg #[.int .u64 ((wd (g) 0 : Nat) : Int), .int .u64 ((wd (g) 1 : Nat) : Int), .int .u64 ((wd (g) 2 : Nat) : Int), .int .u64 ((wd (g) 3 : Nat) : Int)]] w fun e w' => e = .returned (.agg #[.int .u64 ((wd (fun b => f b || g b) 0 : Nat) : Int), .int .u64 ((wd (fun b => f b || g b) 1 : Nat) : Int), .int .u64 ((wd (fun b => f b || g b) 2 : Nat) : Int), .int .u64 ((wd (fun b => f b || g b) 3 : Nat) : Int)]) ∧ Below w.heap.size w w' := by
  obtain ⟨w1, b1⟩ := box w f
  obtain ⟨w2, b2⟩ := box w1 g
  obtain ⟨w3, b3⟩ := box0 w2
  have E1 : Hid _ := b1.eq
  have E2 : Hid _ := b2.eq
  have E3 : Hid _ := b3.eq
  have s1 : w.heap.size < w1.heap.size := by have := b1.size; omega
  have s2 : w1.heap.size < w2.heap.size := by have := b2.size; omega
  have C23 : Below w1.heap.size w1 w3 := b2.bel.trans (b3.bel.mono b2.bel.size)
  have B3 : Hid (Below w.heap.size w w3) := b1.bel.trans (C23.mono b1.bel.size)
  have F0 : Hid (Fill w3 w3 w.heap.size 4 0 (wi (fun b => f b || g b)) (wi f)) := Fill.start _ (b1.fam.below C23 s1) (b1.wrt.below C23 s1)
  have GF : Hid (Fam w3 w1.heap.size 0 4 (wi g)) := b2.fam.below b3.bel s2
  have RF : Hid (Fam w3 w2.heap.size 0 4 (wi (fun _ => false))) := b3.fam
  have RW : Hid (Wrt w3 w2.heap.size 0 4) := b3.wrt
  have H1 : Hid (w.heap.size + 1 = w1.heap.size) := b1.size.symm
  have H2 : Hid (w1.heap.size + 1 = w2.heap.size) := b2.size.symm
  have HK : Hid (∀ k, bits .or .u64 (wd f k : Int) (wd g k : Int) = wi (fun b => f b || g b) k) := fun k => or_key f g k
  clear b1 b2 b3 C23
  generalize w1.heap.size = g1 at *
  generalize w2.heap.size = g2 at *
  go_enter Tryz.func113, Tryz.ntmps113
  go_wp2_with fail
  rw [← E1.out, ← E2.out, ← E3.out, H1.out, H2.out]
  clear E1 E2 E3 H1 H2
  go_loopw [6] (fun vk wr => ∃ k : Nat, k ≤ 4 ∧ vk = .int .i64 k ∧ Fill w3 wr w.heap.size 4 k (wi (fun b => f b || g b)) (wi f)) (fun vk _ => 4 - (intOf vk).toNat)
  case atStart => exact ⟨0, Nat.zero_le _, rfl, F0.out⟩
  case round =>
    obtain ⟨k, hk, rfl, hF⟩ := hrel
    by_cases hk4 : k < 4
    · have hc : wr.cell? ⟨w.heap.size, k, none⟩ = some (.int .u64 (wd f k : Nat)) := by
        have := hF.fam.zero k hk4
        rwa [mix_hi (Nat.le_refl k)] at this
      have hd : wr.cell? ⟨g1, k, none⟩ = some (.int .u64 (wd g k : Nat)) := (hF.wrote.fam GF.out (fun t _ e => by omega)).zero k hk4
      have hf := hF.wrt.zero k hk4
      have hstep : Hid _ := (hF.step hk4 (HK.out k)).drew
      clear hF
      go_wp2_with fail
      go_region
      all_goals
        go_wp2_with fail
        go_roundw
        case rel => exact ⟨k + 1, by omega, by go_num, hstep.out⟩
        case measure => simp [intOf]; omega
    · obtain rfl : k = 4 := by omega
      have FN := hF.fin (Nat.le_refl 4)
      have hbel : Hid (Below w.heap.size w wr) := B3.out.trans (hF.wrote.below (fun b o e => by omega))
      have FZ : Hid (Fam wr g2 0 4 (wi (fun _ => false))) := hF.wrote.fam RF.out (fun t _ e => by omega)
      obtain ⟨q0, q1, q2, q3⟩ := c4 FN
      obtain ⟨z0, z1, z2, z3⟩ := c4 FZ.out
      obtain ⟨f0, f1, f2, f3⟩ := f4 (hF.wrote.wrt RW.out)
      clear hF FN
      go_wp2_with fail
      refine bodyPost_ret (results_set4 rfl _ wr g2 (fun b => f b || g b) rfl FZ.out) rfl ?_
      exact ⟨rfl, set4_below hbel.out (by omega) _⟩

set_option maxHeartbeats 1000000 in
theorem full_any (w : World) :
    Calls Tryz.prog 91 #[] w fun e w' => e = .returned (.agg #[.int .u64 ((wd (fun _ => true) 0 : Nat) : Int), .int .u64 ((wd (fun _ => true) 1 : Nat) : Int), .int .u64 ((wd (fun _ => true) 2 : Nat) : Int), .int .u64 ((wd (fun _ => true) 3 : Nat) : Int)]) ∧ Below w.heap.size w w' := by
  obtain ⟨w1, b1⟩ := box0 w
  have E1 : Hid _ := b1.eq
  have s1 : w.heap.size < w1.heap.size := by have := b1.size; omega
  have B1 : Hid (Below w.heap.size w w1) := b1.bel
  have RF : Hid (Fam w1 w.heap.size 0 4 (wi (fun _ => false))) := b1.fam
  have RW : Hid (Wrt w1 w.heap.size 0 4) := b1.wrt
  have c1 : Hid _ := not_any (fun _ => false) w1
  have hz : ∀ k, wd (fun _ => false) k = 0 := wd_none
  clear b1
  go_enter Tryz.func91, Tryz.ntmps91
  go_wp2_with fail
  rw [← E1.out]
  clear E1
  simp only [hz] at c1
  refine Calls.mono (Hid.out c1) ?_; rintro e w2 ⟨rfl, b2⟩
  have FZ : Hid (Fam w2 w.heap.size 0 4 (wi (fun _ => false))) := RF.out.below b2 s1
  obtain ⟨z0, z1, z2, z3⟩ := c4 FZ.out
  obtain ⟨f0, f1, f2, f3⟩ := f4 (Wrt.below RW.out b2 s1)
  have B2 : Hid (Below w.heap.size w w2) := B1.out.trans (b2.mono B1.out.size)
  clear b2
  go_wp2_with fail
  refine bodyPost_ret (results_set4 rfl _ w2 w.heap.size (fun _ => true) rfl FZ.out) rfl ?_
  exact ⟨rfl, set4_below B2.out (Nat.le_refl _) _⟩

end Cls

end Go.Proofs.YtbnnobeahliffaaGreatDoor

namespace Go.Proofs.YtbnnobeahliffaaGreatDoor
namespace Cls

/-- The same words. -/
def sm (f g : Nat → Bool) : Bool := wd f 0 == wd g 0 && (wd f 1 == wd g 1 && (wd f 2 == wd g 2 && wd f 3 == wd g 3))

theorem sm_words (f g : Nat → Bool) : sm f g = true ↔ ∀ k, k < 4 → wd f k = wd g k := by
  unfold sm
  simp only [Bool.and_eq_true, beq_iff_eq]
  constructor
  · rintro ⟨h0, h1, h2, h3⟩ k hk
    generalize wd f = F at *
    generalize wd g = G at *
    match k, hk with
    | 0, _ => exact h0
    | 1, _ => exact h1
    | 2, _ => exact h2
    | 3, _ => exact h3
  · intro h
    exact ⟨h 0 (by omega), h 1 (by omega), h 2 (by omega), h 3 (by omega)⟩

theorem sm_iff (f g : Nat → Bool) : sm f g = true ↔ ∀ b, b < 256 → f b = g b :=
  (sm_words f g).trans ⟨fun h _ hb => wd_inj h hb, fun h _ hk => wd_congr h hk⟩

theorem sm_true {f g : Nat → Bool} (h : ∀ b, b < 256 → f b = g b) : sm f g = true := (sm_iff f g).2 h

theorem sm_false {f g : Nat → Bool} (h : ¬ ∀ b, b < 256 → f b = g b) : sm f g = false := by
  cases e : sm f g with
  | false => rfl
  | true => exact absurd ((sm_iff f g).1 e) h

theorem eq_arr4 (a b c d e f g h : Int) (w : World) : (Op.equalIn 10000 67 (.agg #[.int .u64 a, .int .u64 b, .int .u64 c, .int .u64 d]) (.agg #[.int .u64 e, .int .u64 f, .int .u64 g, .int .u64 h])).run Tryz.prog w = .ok (a == e && (b == f && (c == g && d == h))) w := by
  rw [show (10000 : Nat) = 9999 + 1 from rfl, Op.equalIn]
  simp only [Sem.run_bind, run_underlying Tryz.underlying67, Result.andThen_ok]
  simp only [Std.Legacy.Range.forIn_eq_forIn_range', Std.Legacy.Range.size, Nat.sub_zero, Nat.add_sub_cancel, Nat.div_one, List.range'_succ, List.range'_zero, List.forIn_cons, List.forIn_nil]
  go_simp
  by_cases h1 : a = e <;> by_cases h2 : b = f <;> by_cases h3 : c = g <;> by_cases h4 : d = h <;> simp [h1, h2, h3, h4]

theorem sm_four (f g : Nat → Bool) : (((wd f 0 : Nat) : Int) == ((wd g 0 : Nat) : Int) && (((wd f 1 : Nat) : Int) == ((wd g 1 : Nat) : Int) && (((wd f 2 : Nat) : Int) == ((wd g 2 : Nat) : Int) && ((wd f 3 : Nat) : Int) == ((wd g 3 : Nat) : Int)))) = sm f g := by
  have e : ∀ a b : Nat, ((a : Int) == (b : Int)) = (a == b) := fun a b => by
    rw [Bool.eq_iff_iff, beq_iff_eq, beq_iff_eq]; omega
  unfold sm
  rw [e, e, e, e]

@[go_sem] theorem eq_cls (f g : Nat → Bool) (w : World) : (Op.equalIn 10000 67 (.agg #[.int .u64 ((wd (f) 0 : Nat) : Int), .int .u64 ((wd (f) 1 : Nat) : Int), .int .u64 ((wd (f) 2 : Nat) : Int), .int .u64 ((wd (f) 3 : Nat) : Int)]) (.agg #[.int .u64 ((wd (g) 0 : Nat) : Int), .int .u64 ((wd (g) 1 : Nat) : Int), .int .u64 ((wd (g) 2 : Nat) : Int), .int .u64 ((wd (g) 3 : Nat) : Int)])).run Tryz.prog w = .ok (sm f g) w := by
  rw [eq_arr4, sm_four]

@[go_sem] theorem eq_cls0 (f : Nat → Bool) (w : World) : (Op.equalIn 10000 67 (.agg #[.int .u64 ((wd (f) 0 : Nat) : Int), .int .u64 ((wd (f) 1 : Nat) : Int), .int .u64 ((wd (f) 2 : Nat) : Int), .int .u64 ((wd (f) 3 : Nat) : Int)]) (.agg #[.int .u64 0, .int .u64 0, .int .u64 0, .int .u64 0])).run Tryz.prog w = .ok (sm f (fun _ => false)) w := by
  have h := eq_cls f (fun _ => false) w
  simp only [wd_none] at h
  exact h

@[go_sem] theorem eq_pair (a b c d : Int) (w : World) : (Op.equalIn 10000 123 (.agg #[.int .u8 a, .int .u8 b]) (.agg #[.int .u8 c, .int .u8 d])).run Tryz.prog w = .ok (a == c && b == d) w := by
  rw [show (10000 : Nat) = 9999 + 1 from rfl, Op.equalIn]
  simp only [Sem.run_bind, run_underlying Tryz.underlying123, Result.andThen_ok]
  simp only [Std.Legacy.Range.forIn_eq_forIn_range', Std.Legacy.Range.size, Nat.sub_zero, Nat.add_sub_cancel, Nat.div_one, List.range'_succ, List.range'_zero, List.forIn_cons, List.forIn_nil]
  go_simp
  by_cases h1 : a = c <;> by_cases h2 : b = d <;> simp [h1, h2]

end Cls

end Go.Proofs.YtbnnobeahliffaaGreatDoor

namespace Go.Proofs.YtbnnobeahliffaaGreatDoor
open Go.RowKit
namespace Cls

/-- The bytes among the first n of a text. -/
def inS (s : ByteArray) (n b : Nat) : Bool := (s.data.toList.take n).any (fun x => x.toNat == b)

theorem inS_zero (s : ByteArray) : inS s 0 = fun _ => false := by funext b; simp [inS]

theorem inS_succ (s : ByteArray) (n : Nat) (h : n < s.size) : inS s (n + 1) = ins (inS s n) (s[n]'h).toNat := by
  funext b
  have hn : n < s.data.toList.length := by simpa using h
  unfold inS ins
  rw [List.take_succ_eq_append_getElem hn, List.any_append]
  congr 1
  have e : s.data.toList[n]'hn = s[n]'h := by simp; rfl
  rw [e]
  simp only [List.any_cons, List.any_nil, Bool.or_false]
  exact BEq.comm

/-- The bytes from a on that are below b. -/
def rg (a b x : Nat) : Bool := decide (a ≤ x) && decide (x < b)

theorem rg_none {a b : Nat} (h : b ≤ a) : rg a b = fun _ => false := by
  funext x
  unfold rg
  by_cases e : a ≤ x
  · rw [decide_eq_false (show ¬ x < b by omega)]; simp
  · rw [decide_eq_false e]; rfl

theorem rg_succ {a b : Nat} (h : a ≤ b) : rg a (b + 1) = ins (rg a b) b := by
  funext x
  unfold rg ins
  by_cases e : x = b
  · subst e; simp [h]
  · have : (x == b) = false := beq_eq_false_iff_ne.2 e
    rw [this, Bool.or_false]
    congr 1
    by_cases e2 : x < b
    · rw [decide_eq_true e2, decide_eq_true (by omega)]
    · rw [decide_eq_false e2, decide_eq_false (by omega)]

/-- A result's box (still empty) and a class that is being made. -/
structure Cur (B : Nat) (w wr : World) (gr gc : Nat) (f : Nat → Bool) : Prop where
  bel : Below B w wr
  rf : Fam wr gr 0 4 (wi (fun _ => false))
  rw : Wrt wr gr 0 4
  cf : Fam wr gc 0 4 (wi f)
  cw : Wrt wr gc 0 4
  ne : gr ≠ gc
  br : B ≤ gr
  bc : B ≤ gc

theorem Cur.grow {B : Nat} {w wr w' : World} {gr gc : Nat} {f : Nat → Bool} (h : Cur B w wr gr gc f) (hb : Below wr.heap.size wr w') (hB : B ≤ wr.heap.size) : Cur B w w' gr gc f :=
  ⟨h.bel.trans (hb.mono hB), h.rf.below hb (h.rf.lt (by omega)), h.rw.below hb (h.rf.lt (by omega)), h.cf.below hb (h.cf.lt (by omega)), h.cw.below hb (h.cf.lt (by omega)), h.ne, h.br, h.bc⟩

theorem Cur.set {B : Nat} {w wr : World} {gr gc : Nat} {f : Nat → Bool} (h : Cur B w wr gr gc f) (g : Nat → Bool) : Cur B w (set4 wr gc g) gr gc g :=
  ⟨set4_below h.bel h.bc g, (set4_wrote g).fam h.rf (fun _ _ e => h.ne e), set4_wrt h.rw g, set4_fam h.cf g, set4_wrt h.cw g, h.ne, h.br, h.bc⟩

theorem Cur.drew {B : Nat} {w wr : World} {gr gc : Nat} {f : Nat → Bool} (h : Cur B w wr gr gc f) : Cur B w wr.drew gr gc f := ⟨below_drewN h.bel 1, h.rf, h.rw, h.cf, h.cw, h.ne, h.br, h.bc⟩

theorem Cur.size {B : Nat} {w wr : World} {gr gc : Nat} {f : Nat → Bool} (h : Cur B w wr gr gc f) : B ≤ wr.heap.size := Nat.le_of_lt (Nat.lt_of_le_of_lt h.bc (h.cf.lt (by omega)))

theorem two_boxes (w : World) : ∃ v g, v = (w.alloc (.cells #[.int .u64 0, .int .u64 0, .int .u64 0, .int .u64 0] 67)).alloc (.cells #[.int .u64 0, .int .u64 0, .int .u64 0, .int .u64 0] 67) ∧ w.heap.size + 1 = g ∧ Cur w.heap.size w v w.heap.size g (fun _ => false) := by
  obtain ⟨w1, b1⟩ := box0 w
  obtain ⟨w2, b2⟩ := box0 w1
  have s1 : w.heap.size < w1.heap.size := by have := b1.size; omega
  refine ⟨w2, w1.heap.size, by rw [b2.eq, b1.eq], b1.size.symm, b1.bel.trans (b2.bel.mono b1.bel.size), b1.fam.below b2.bel s1, b1.wrt.below b2.bel s1, b2.fam, b2.wrt, by omega, Nat.le_refl _, by omega⟩

set_option maxHeartbeats 1000000 in
theorem of_any (s : ByteArray) (hs : s.size < 9223372036854775808) (w : World) :
    Calls Tryz.prog 30 #[.string s] w fun e w' => e = .returned (.agg #[.int .u64 ((wd (inS s s.size) 0 : Nat) : Int), .int .u64 ((wd (inS s s.size) 1 : Nat) : Int), .int .u64 ((wd (inS s s.size) 2 : Nat) : Int), .int .u64 ((wd (inS s s.size) 3 : Nat) : Int)]) ∧ Below w.heap.size w w' := by
  obtain ⟨v, g, e1, hg, hC⟩ := two_boxes w
  have E1 : Hid _ := e1
  have HG : Hid _ := hg
  have HC : Hid (Cur w.heap.size w v w.heap.size g (inS s 0)) := by show Cur _ _ _ _ _ _; rw [inS_zero]; exact hC
  clear e1 hg hC
  go_enter Tryz.func30, Tryz.ntmps30
  go_wp2_with fail
  rw [← E1.out, HG.out]
  clear E1
  go_loopw [7] (fun vk wr => ∃ n : Nat, n ≤ s.size ∧ vk = .int .i64 n ∧ Cur w.heap.size w wr w.heap.size g (inS s n)) (fun vk _ => s.size - (intOf vk).toNat)
  case atStart => exact ⟨0, Nat.zero_le _, rfl, HC.out⟩
  case round =>
    obtain ⟨n, hn, rfl, hF⟩ := hrel
    by_cases hlt : n < s.size
    · have HF : Hid _ := hF
      obtain ⟨a0, a1, a2, a3⟩ := c4 hF.cf
      have hi0 : (0 : Int) ≤ (n : Int) := by omega
      have hi1 : (n : Int) < (s.size : Int) := by omega
      have hb : (s[n]'hlt).toNat < 256 := UInt8.toNat_lt _
      have hsu : Hid _ := inS_succ s n hlt
      clear hF
      go_wp2_with fail
      go_region_with (go_at_call 55; refine (with_any (inS s n) _ hb _).mono ?_; rintro e w' ⟨rfl, b'⟩; have b2 : Below wr.heap.size wr w' := undrew b'; have H2 : Hid (Cur w.heap.size w w' w.heap.size g (inS s n)) := HF.out.grow b2 HF.out.size; obtain ⟨p0, p1, p2, p3⟩ := c4 H2.out.cf; obtain ⟨q0, q1, q2, q3⟩ := f4 H2.out.cw; clear b' b2)
      all_goals
        go_wp2_with fail
        go_roundw
        case rel => exact ⟨n + 1, by omega, by go_num, by rw [hsu.out]; exact H2.out.set _⟩
        case measure => simp [intOf]; omega
    · obtain rfl : n = s.size := by omega
      have HF : Hid _ := hF
      obtain ⟨a0, a1, a2, a3⟩ := c4 hF.cf
      obtain ⟨z0, z1, z2, z3⟩ := c4 hF.rf
      obtain ⟨f0, f1, f2, f3⟩ := f4 hF.rw
      clear hF
      go_wp2_with fail
      refine bodyPost_ret (results_set4 rfl _ wr w.heap.size (inS s s.size) rfl HF.out.rf) rfl ?_
      exact ⟨rfl, set4_below HF.out.bel (Nat.le_refl _) _⟩

set_option maxHeartbeats 1000000 in
theorem range_any (a b : Nat) (ha : a < 256) (hb : b < 256) (w : World) :
    Calls Tryz.prog 94 #[.int .u8 a, .int .u8 b] w fun e w' => e = .returned (.agg #[.int .u64 ((wd (rg a (b + 1)) 0 : Nat) : Int), .int .u64 ((wd (rg a (b + 1)) 1 : Nat) : Int), .int .u64 ((wd (rg a (b + 1)) 2 : Nat) : Int), .int .u64 ((wd (rg a (b + 1)) 3 : Nat) : Int)]) ∧ Below w.heap.size w w' := by
  obtain ⟨v, g, e1, hg, hC⟩ := two_boxes w
  have E1 : Hid _ := e1
  have HG : Hid _ := hg
  have HC : Hid (Cur w.heap.size w v w.heap.size g (rg a a)) := by show Cur _ _ _ _ _ _; rw [rg_none (Nat.le_refl a)]; exact hC
  clear e1 hg hC
  go_enter Tryz.func94, Tryz.ntmps94
  go_wp2_with fail
  rw [← E1.out, HG.out]
  clear E1
  go_loopw [6] (fun vk wr => ∃ n : Nat, a ≤ n ∧ n ≤ 256 ∧ (n ≤ b + 1 ∨ n = a) ∧ vk = .int .i64 n ∧ Cur w.heap.size w wr w.heap.size g (rg a n)) (fun vk _ => 256 - (intOf vk).toNat)
  case atStart => exact ⟨a, Nat.le_refl _, by omega, by omega, by first | rfl | simp, HC.out⟩
  case round =>
    obtain ⟨n, hna, hn, hor, rfl, hF⟩ := hrel
    by_cases hlt : n ≤ b
    · have HF : Hid _ := hF
      obtain ⟨a0, a1, a2, a3⟩ := c4 hF.cf
      have hi1 : (n : Int) ≤ (b : Int) := by omega
      have hi2 : (n : Int) < 256 := by omega
      have hsu : Hid _ := rg_succ hna
      have c1 : Hid _ := with_any (rg a n) n (by omega) wr
      clear hF
      go_wp2_with fail
      refine Calls.mono (Hid.out c1) ?_; rintro e w' ⟨rfl, b'⟩
      have H2 : Hid (Cur w.heap.size w w' w.heap.size g (rg a n)) := HF.out.grow b' HF.out.size
      obtain ⟨p0, p1, p2, p3⟩ := c4 H2.out.cf
      obtain ⟨q0, q1, q2, q3⟩ := f4 H2.out.cw
      clear b'
      go_wp2_with fail
      go_roundw
      case rel => exact ⟨n + 1, by omega, by omega, by omega, by go_num, by rw [hsu.out]; exact H2.out.set _⟩
      case measure => simp [intOf]; omega
    · have e : rg a n = rg a (b + 1) := by
        rcases hor with h | h
        · rw [show n = b + 1 by omega]
        · rw [rg_none (by omega), rg_none (by omega)]
      rw [e] at hF
      have HF : Hid _ := hF
      obtain ⟨a0, a1, a2, a3⟩ := c4 hF.cf
      obtain ⟨z0, z1, z2, z3⟩ := c4 hF.rf
      obtain ⟨f0, f1, f2, f3⟩ := f4 hF.rw
      have hi1 : ¬ (n : Int) ≤ (b : Int) := by omega
      clear hF e hor
      go_wp2_with fail
      refine bodyPost_ret (results_set4 rfl _ wr w.heap.size (rg a (b + 1)) rfl HF.out.rf) rfl ?_
      exact ⟨rfl, set4_below HF.out.bel (Nat.le_refl _) _⟩

end Cls

end Go.Proofs.YtbnnobeahliffaaGreatDoor

namespace Go.Proofs.YtbnnobeahliffaaGreatDoor
open Go.RowKit
namespace Cls

theorem and_nat (a m c : Nat) (M : Int) (hM : M = (m : Int)) (ha : a < 18446744073709551616) (hm : m < 18446744073709551616) (h : a &&& m = c) : bits .and .u64 (a : Int) M = (c : Int) := by rw [hM, bits_and_u64_nat _ _ ha hm, h]

theorem and127 (x : Nat) (hx : x < 9223372036854775808) : bits .and .i64 (x : Int) 127 = ((x % 128 : Nat) : Int) := by
  have h1 : (BitVec.ofInt 64 (x : Int)).toNat = x := by
    rw [BitVec.ofInt_natCast, BitVec.toNat_ofNat]; exact Nat.mod_eq_of_lt (by omega)
  have h2 : (BitVec.ofInt 64 (127 : Int)).toNat = 127 := by decide +kernel
  show IntKind.i64.wrap ((BitVec.ofInt 64 (x : Int) &&& BitVec.ofInt 64 (127 : Int)).toNat : Int) = _
  have e : x &&& 127 = x % 128 := Nat.and_two_pow_sub_one_eq_mod x 7
  rw [BitVec.toNat_and, h1, h2, e]
  simp [IntKind.wrap, IntKind.signed, IntKind.bits]
  omega

theorem idx4c (x0 x1 x2 x3 : Int) (w : World) : (Instr.index 67 (.agg #[.int .u64 x0, .int .u64 x1, .int .u64 x2, .int .u64 x3]) (.int .i64 0)).run Tryz.prog w = .ok (.int .u64 x0) w ∧ (Instr.index 67 (.agg #[.int .u64 x0, .int .u64 x1, .int .u64 x2, .int .u64 x3]) (.int .i64 1)).run Tryz.prog w = .ok (.int .u64 x1) w ∧ (Instr.index 67 (.agg #[.int .u64 x0, .int .u64 x1, .int .u64 x2, .int .u64 x3]) (.int .i64 2)).run Tryz.prog w = .ok (.int .u64 x2) w ∧ (Instr.index 67 (.agg #[.int .u64 x0, .int .u64 x1, .int .u64 x2, .int .u64 x3]) (.int .i64 3)).run Tryz.prog w = .ok (.int .u64 x3) w :=
  ⟨by kernel_rfl, by kernel_rfl, by kernel_rfl, by kernel_rfl⟩

/-- A class's word, of the value. -/
theorem idx4 (W : Nat → Nat) (k : Nat) (hk : k < 4) (w : World) : (Instr.index 67 (.agg #[.int .u64 ((W 0 : Nat) : Int), .int .u64 ((W 1 : Nat) : Int), .int .u64 ((W 2 : Nat) : Int), .int .u64 ((W 3 : Nat) : Int)]) (.int .i64 (k : Int))).run Tryz.prog w = .ok (.int .u64 ((W k : Nat) : Int)) w := by
  have h := idx4c (W 0) (W 1) (W 2) (W 3) w
  match k, hk with
  | 0, _ => exact h.1
  | 1, _ => exact h.2.1
  | 2, _ => exact h.2.2.1
  | 3, _ => exact h.2.2.2

end Cls

end Go.Proofs.YtbnnobeahliffaaGreatDoor

namespace Go.Proofs.YtbnnobeahliffaaGreatDoor
open Go.RowKit
namespace Cls

/-- The library's table, as its text lays it. -/
def TabB (w : World) : Prop := ∀ j, j < 64 → w.cell? ⟨2, j, none⟩ = some (.int .u8 ((Lib.deBruijn64tab.getD j 0 : Nat) : Int))

theorem tabB_lt {w : World} (h : TabB w) : 2 < w.heap.size := World.block_lt_of_cell? w _ (h 0 (by omega))

theorem TabB.below {B : Nat} {w w' : World} (h : TabB w) (hb : Below B w w') (hB : 2 < B) : TabB w' := fun j hj => (hb.cell (p := ⟨2, j, none⟩) hB).trans (h j hj)

theorem TabB.grow {w w' : World} (h : TabB w) (hb : Below w.heap.size w w') : TabB w' := h.below hb (tabB_lt h)

theorem tz_key (x a : Nat) (hx : x < 18446744073709551616) (hx0 : x ≠ 0) (hlow : x &&& (18446744073709551616 - x) = a) :
    IntKind.u64.wrap (bits BinOp.and IntKind.u64 (x : Int) (IntKind.u64.wrap (-(x : Int))) * 285870213051353865) / 288230376151711744 = ((a * 285870213051353865 % 18446744073709551616 / 288230376151711744 : Nat) : Int) := by
  have e1 : IntKind.u64.wrap (-(x : Int)) = ((18446744073709551616 - x : Nat) : Int) := by rw [IntKind.wrap_u64]; omega
  rw [e1, bits_and_u64_nat x _ hx (by omega), hlow, IntKind.wrap_u64]
  omega

set_option maxHeartbeats 1000000 in
theorem tz_core (x k idx : Nat) (w : World) (hx0 : ((x : Int) == 0) = false)
    (key : IntKind.u64.wrap (bits BinOp.and IntKind.u64 (x : Int) (IntKind.u64.wrap (-(x : Int))) * 285870213051353865) / 288230376151711744 = (idx : Int))
    (hi : idx < 64) (hk : k < 64) (hcell : w.cell? ⟨2, idx, none⟩ = some (.int .u8 k)) :
    Calls Tryz.prog 131 #[.int .u64 x] w fun e w' => e = .returned (.int .i64 k) ∧ w' = w := by
  go_enter Tryz.func131, Tryz.ntmps131
  go_wp2_with (simp only [key])
  go_ret
  exact ⟨rfl, rfl⟩

theorem tz_any (x : Nat) (hx : x < 18446744073709551616) (hx0 : x ≠ 0) (w : World) (hT : TabB w) : ∃ c m, c < 64 ∧ x = 2 ^ c * (2 * m + 1) ∧
    Calls Tryz.prog 131 #[.int .u64 x] w fun e w' => e = .returned (.int .i64 ((c : Nat) : Int)) ∧ w' = w := by
  obtain ⟨hlow, hk⟩ := Lib.lowest_bit 64 x hx0 hx
  obtain ⟨hi, htab⟩ := Lib.deBruijn64_at _ hk
  have hcell := hT _ hi
  rw [htab] at hcell
  obtain ⟨m, hm, hc⟩ := Lib.ctzFrom_spec 64 x (by omega) hx
  have e : Lib.ctz 64 x = Lib.ctzFrom 64 x := by unfold Lib.ctz; rw [if_neg hx0]
  rw [e] at hlow hk hi htab hcell
  exact ⟨Lib.ctzFrom 64 x, m, hc, hm, tz_core x _ _ w (by simp; omega) (tz_key x _ hx hx0 hlow) hi hk hcell⟩

/-- b is the least of f, 0 if there is none. -/
def Lst (f : Nat → Bool) (b : Nat) : Prop := ((∀ x, x < 256 → f x = false) ∧ b = 0) ∨ (f b = true ∧ ∀ x, x < b → f x = false)

theorem zero_word {f : Nat → Bool} {k : Nat} (h : wd f k = 0) {i : Nat} (hi : i < 64) : f (64 * k + i) = false := by
  have := wd_bit f k i
  rw [h] at this
  simpa [hi] using this.symm

theorem odd_word {f : Nat → Bool} {k c m : Nat} (hc : c < 64) (h : wd f k = 2 ^ c * (2 * m + 1)) : f (64 * k + c) = true ∧ ∀ i, i < c → f (64 * k + i) = false := by
  constructor
  · have := has_at f k c hc
    rw [h, Nat.mul_div_cancel_left _ (Nat.two_pow_pos c)] at this
    cases e : f (64 * k + c) with
    | true => rfl
    | false => rw [e] at this; simp at this
  · intro i hi
    have := has_at f k i (by omega)
    rw [h, show c = i + ((c - i - 1) + 1) by omega, Nat.pow_add, Nat.pow_succ, Nat.mul_assoc, Nat.mul_div_cancel_left _ (Nat.two_pow_pos i), show 2 ^ (c - i - 1) * 2 * (2 * m + 1) = 2 * (2 ^ (c - i - 1) * (2 * m + 1)) by rw [Nat.mul_comm (2 ^ (c - i - 1)) 2, Nat.mul_assoc], Nat.mul_mod_right] at this
    cases e : f (64 * k + i) with
    | false => rfl
    | true => rw [e] at this; simp at this

set_option maxHeartbeats 1000000 in
theorem least_any (f : Nat → Bool) (w : World) (hT : TabB w) :
    Calls Tryz.prog 123 #[.agg #[.int .u64 ((wd (f) 0 : Nat) : Int), .int .u64 ((wd (f) 1 : Nat) : Int), .int .u64 ((wd (f) 2 : Nat) : Int), .int .u64 ((wd (f) 3 : Nat) : Int)]] w fun e w' => (∃ b : Nat, b < 256 ∧ Lst f b ∧ e = .returned (.int .u8 (b : Int))) ∧ Below w.heap.size w w' := by
  obtain ⟨w1, b1⟩ := box w f
  have E1 : Hid _ := b1.eq
  have B1 : Hid (Below w.heap.size w w1) := b1.bel
  have T1 : Hid (TabB w1) := hT.grow b1.bel
  clear b1 hT
  go_enter Tryz.func123, Tryz.ntmps123
  go_wp2_with fail
  rw [← E1.out]
  clear E1
  go_loopw [6] (fun vk wr => wr = w1 ∧ ∃ k : Nat, k ≤ 4 ∧ vk = .int .i64 k ∧ ∀ x, x < 64 * k → f x = false) (fun vk _ => 4 - (intOf vk).toNat)
  case atStart => exact ⟨rfl, 0, Nat.zero_le _, rfl, fun x hx => by omega⟩
  case round =>
    obtain ⟨rfl, k, hk, rfl, hz⟩ := hrel
    have HZ : Hid _ := hz
    clear hz
    by_cases hk4 : k < 4
    · have hidx := idx4 (wd f) k hk4
      by_cases h0 : wd f k = 0
      · have HZ' : Hid (∀ x, x < 64 * (k + 1) → f x = false) := fun x hx => by
          by_cases hx2 : x < 64 * k
          · exact HZ.out x hx2
          · have := zero_word h0 (i := x - 64 * k) (by omega)
            rwa [show 64 * k + (x - 64 * k) = x by omega] at this
        rw [h0] at hidx
        go_wp2_with fail
        go_roundw
        case rel => exact ⟨trivial, k + 1, by omega, by go_num, HZ'.out⟩
        case measure => simp [intOf]; omega
      · obtain ⟨c, m, hc, hm, c1⟩ := tz_any (wd f k) (wd_lt f k) h0 wr T1.out
        obtain ⟨hf1, hf2⟩ := odd_word hc hm
        have C1 : Hid _ := c1
        have hne : ¬ ((wd f k : Nat) : Int) = 0 := by omega
        have hL : Hid (Lst f (64 * k + c)) := Or.inr ⟨hf1, fun x hx => by
          by_cases hx2 : x < 64 * k
          · exact HZ.out x hx2
          · have := hf2 (x - 64 * k) (by omega)
            rwa [show 64 * k + (x - 64 * k) = x by omega] at this⟩
        have hkI : (k : Int) < 4 := by omega
        have hcI : (c : Int) < 64 := by omega
        clear c1 hf1 hf2 hm h0
        go_wp2_with fail
        refine Calls.mono (Hid.out C1) ?_; rintro e w' ⟨rfl, hw'⟩; subst w'
        go_wp2_with fail
        go_ret
        exact ⟨⟨64 * k + c, by omega, hL.out, by go_num⟩, B1.out⟩
    · obtain rfl : k = 4 := by omega
      go_wp2_with fail
      go_ret
      exact ⟨⟨0, by omega, Or.inl ⟨fun x hx => HZ.out x (by omega), rfl⟩, rfl⟩, B1.out⟩

theorem with0_any (b : Nat) (hb : b < 256) (w : World) :
    Calls Tryz.prog 55 #[.agg #[.int .u64 0, .int .u64 0, .int .u64 0, .int .u64 0], .int .u8 b] w fun e w' => e = .returned (.agg #[.int .u64 ((wd (fun x => x == b) 0 : Nat) : Int), .int .u64 ((wd (fun x => x == b) 1 : Nat) : Int), .int .u64 ((wd (fun x => x == b) 2 : Nat) : Int), .int .u64 ((wd (fun x => x == b) 3 : Nat) : Int)]) ∧ Below w.heap.size w w' := by
  have h := with_any (fun _ => false) b hb w
  have e : ins (fun _ => false) b = fun x => x == b := by funext x; simp [ins]
  have z : ∀ k, wd (fun _ => false) k = 0 := wd_none
  rw [e] at h
  simp only [z] at h
  exact h

/-- The one byte of f, if there is one. -/
def Sgl (f : Nat → Bool) (b : Nat) (t : Bool) : Prop := (t = true ∧ b < 256 ∧ ∀ x, x < 256 → f x = (x == b)) ∨ (t = false ∧ b = 0 ∧ ¬ ∃ c, c < 256 ∧ ∀ x, x < 256 → f x = (x == c))

theorem Sgl.one {f : Nat → Bool} {b c : Nat} {t u : Bool} (h : Sgl f b t) (k : Sgl f c u) : b = c ∧ t = u := by
  rcases h with ⟨rfl, h1, h2⟩ | ⟨rfl, rfl, h2⟩ <;> rcases k with ⟨rfl, k1, k2⟩ | ⟨rfl, rfl, k2⟩
  · have := h2 c k1
    rw [k2 c k1] at this
    simp at this
    exact ⟨this.symm, rfl⟩
  · exact absurd ⟨b, h1, h2⟩ k2
  · exact absurd ⟨c, k1, k2⟩ h2
  · exact ⟨rfl, rfl⟩

theorem Lst.single {f : Nat → Bool} {b c : Nat} (h : Lst f b) (hc : c < 256) (k : ∀ x, x < 256 → f x = (x == c)) : b = c := by
  rcases h with ⟨h1, rfl⟩ | ⟨h1, h2⟩
  · have := h1 c hc
    rw [k c hc] at this
    simp at this
  · have := k c hc
    rcases Nat.lt_trichotomy b c with e | e | e
    · have := k b (by omega)
      rw [h1] at this
      simp at this
      exact this
    · exact e
    · have h3 := h2 c e
      rw [h3] at this
      simp at this

set_option maxHeartbeats 1000000 in
theorem single_any (f : Nat → Bool) (w : World) (hT : TabB w) :
    Calls Tryz.prog 103 #[.agg #[.int .u64 ((wd (f) 0 : Nat) : Int), .int .u64 ((wd (f) 1 : Nat) : Int), .int .u64 ((wd (f) 2 : Nat) : Int), .int .u64 ((wd (f) 3 : Nat) : Int)]] w fun e w' => (∃ (b : Nat) (t : Bool), Sgl f b t ∧ b < 256 ∧ e = .returned (.tuple #[.int .u8 (b : Int), .bool t])) ∧ Below w.heap.size w w' := by
  obtain ⟨w1, b1⟩ := box w f
  have E1 : Hid _ := b1.eq
  have B1 : Hid (Below w.heap.size w w1) := b1.bel
  have F1 : Hid (Fam w1 w.heap.size 0 4 (wi f)) := b1.fam
  have s1 : w.heap.size < w1.heap.size := by have := b1.size; omega
  have c1 : Hid _ := least_any f w1 (hT.grow b1.bel)
  clear b1 hT
  go_enter Tryz.func103, Tryz.ntmps103
  go_wp2_with fail
  rw [← E1.out]
  clear E1
  refine Calls.mono (Hid.out c1) ?_; rintro e w2 ⟨⟨b, hb, hL, rfl⟩, b2⟩
  have B2 : Hid (Below w.heap.size w w2) := B1.out.trans (b2.mono B1.out.size)
  have F2 : Hid (Fam w2 w.heap.size 0 4 (wi f)) := F1.out.below b2 s1
  have s2 : w.heap.size < w2.heap.size := Nat.lt_of_lt_of_le s1 b2.size
  have HL : Hid (Lst f b) := hL
  obtain ⟨a0, a1, a2, a3⟩ := c4 F2.out
  clear b2 F1 B1 c1 hL
  go_wp2_with fail
  go_region_held3 (fun w' => w'.cell? ⟨w.heap.size, 0, none⟩ = some (.int .u64 ((wd f 0 : Nat) : Int)) ∧ w'.cell? ⟨w.heap.size, 1, none⟩ = some (.int .u64 ((wd f 1 : Nat) : Int)) ∧ w'.cell? ⟨w.heap.size, 2, none⟩ = some (.int .u64 ((wd f 2 : Nat) : Int)) ∧ w'.cell? ⟨w.heap.size, 3, none⟩ = some (.int .u64 ((wd f 3 : Nat) : Int))) (go_keep)
    (first | (go_at_call 55; refine (with0_any b hb _).mono ?_; rintro e w3 ⟨rfl, b3⟩; have b3' : Below w2.heap.size w2 w3 := undrew b3; have B3 : Hid (Below w.heap.size w w3) := B2.out.trans (b3'.mono B2.out.size); obtain ⟨m0, m1, m2, m3⟩ := c4 (Fam.below (show Fam w2 w.heap.size 0 4 (wi f) from F2.out) b3' s2); clear b3 b3'))
  by_cases hs : sm f (fun x => x == b) = true
  · have hS : Hid (Sgl f b true) := Or.inl ⟨rfl, hb, (sm_iff _ _).1 hs⟩
    simp only [hs, Bool.not_true]
    go_wp2_with fail
    go_ret2
    exact ⟨⟨b, true, hS.out, hb, rfl⟩, B3.out⟩
  · have hs' : sm f (fun x => x == b) = false := by simpa using hs
    have hS : Hid (Sgl f 0 false) := Or.inr ⟨rfl, rfl, fun ⟨c, hc, hk⟩ => hs ((sm_iff _ _).2 (by rw [Lst.single HL.out hc hk]; exact hk))⟩
    clear hs
    simp only [hs', Bool.not_false]
    go_wp2_with fail
    go_ret2
    exact ⟨⟨0, false, hS.out, by omega, rfl⟩, B3.out⟩

end Cls

end Go.Proofs.YtbnnobeahliffaaGreatDoor

namespace Go.Proofs.YtbnnobeahliffaaGreatDoor
open Go.RowKit
namespace Cls

theorem div_step (x k : Nat) : x / 2 ^ (k + 1) = x / 2 ^ k / 2 := by rw [Nat.pow_succ, Nat.div_div_eq_div_mul]

set_option maxHeartbeats 1000000 in
theorem refHas_any (f : Nat → Bool) (b : Nat) (hb : b < 256) (w : World) :
    Calls Tryz.prog 108 #[.agg #[.int .u64 ((wd (f) 0 : Nat) : Int), .int .u64 ((wd (f) 1 : Nat) : Int), .int .u64 ((wd (f) 2 : Nat) : Int), .int .u64 ((wd (f) 3 : Nat) : Int)], .int .u8 b] w fun e w' => e = .returned (.bool (f b)) ∧ Below w.heap.size w w' := by
  obtain ⟨k, hk⟩ : ∃ k, b / 64 = k := ⟨_, rfl⟩
  obtain ⟨i, hi⟩ : ∃ i, b % 64 = i := ⟨_, rfl⟩
  have hk4 : k < 4 := by omega
  have hi64 : i < 64 := by omega
  have hq : (b : Int) / 64 = (k : Int) := by omega
  have hr : (b : Int) % 64 = (i : Int) := by omega
  obtain ⟨w1, b1⟩ := box w f
  have E1 : Hid _ := b1.eq
  have B1 : Hid (Below w.heap.size w w1) := b1.bel
  have hck : w1.cell? ⟨w.heap.size, k, none⟩ = some (.int .u64 (wd f k : Nat)) := b1.fam.zero k hk4
  have hlast : Hid ((wd f k / 2 ^ i % 2 : Nat) = (f b).toNat) := by
    have := has_at f k i hi64
    rwa [show 64 * k + i = b by omega] at this
  have hx0 : Hid (wd f k = wd f k / 2 ^ 0) := by show _ = _; simp
  clear b1 hk hi
  go_enter Tryz.func108, Tryz.ntmps108
  go_wp2_with (first | rw [← E1.out] | simp only [get4 f k hk4])
  clear E1
  go_loopw [5, 6] (fun vx vj wr => wr = w1 ∧ ∃ j : Nat, j ≤ i ∧ vj = .int .i64 j ∧ vx = .int .u64 ((wd f k / 2 ^ j : Nat) : Int)) (fun _ vj _ => i - (intOf vj).toNat)
  case atStart => exact ⟨rfl, 0, Nat.zero_le _, rfl, by rw [← hx0.out]⟩
  case round =>
    obtain ⟨rfl, j, hj, rfl, rfl⟩ := hrel
    by_cases hji : j < i
    · have hs : Hid _ := div_step (wd f k) j
      have hjI : (j : Int) < (i : Int) := by omega
      have hX : wd f k / 2 ^ j < 18446744073709551616 := Nat.lt_of_le_of_lt (Nat.div_le_self _ _) (wd_lt f k)
      generalize wd f k / 2 ^ j = X at *
      have hX' : (X : Int) / 2 < 18446744073709551616 := by omega
      have hw : IntKind.u64.wrap ((X : Int) / 2) = (X : Int) / 2 := by rw [IntKind.wrap_u64]; omega
      go_wp2_with fail
      go_roundw
      case rel => exact ⟨trivial, j + 1, by omega, by go_num, by rw [hs.out]; go_num⟩
      case measure => simp [intOf]; omega
    · obtain rfl : j = i := by omega
      have hl := hlast.out
      generalize wd f k / 2 ^ j = X at *
      have hl2 : ((X : Int) % 2 == 1) = f b := by
        rw [show (X : Int) % 2 = ((X % 2 : Nat) : Int) by omega, hl]
        cases f b <;> rfl
      clear hl hlast
      go_wp2_with fail
      go_ret
      exact ⟨by first | rfl | (rw [← hl2]; rfl), B1.out⟩

theorem infoB : ∃ i, Tryz.prog.info? 4 = some i ∧ i.zero = some (.bool false) ∧ i.size = 1 ∧ i.bytes = 1 := by
  have h : (Tryz.prog.info? 4).map (fun i => (i.zero, i.size, i.bytes)) = some (some (.bool false), 1, 1) := by kernel_rfl
  obtain ⟨i, hi, hz⟩ := Option.map_eq_some_iff.1 h
  simp only [Prod.mk.injEq] at hz
  exact ⟨i, hi, hz.1, hz.2.1, hz.2.2⟩

set_option maxHeartbeats 1000000 in
theorem refBytes_any (f : Nat → Bool) (w : World) :
    Calls Tryz.prog 107 #[.agg #[.int .u64 ((wd (f) 0 : Nat) : Int), .int .u64 ((wd (f) 1 : Nat) : Int), .int .u64 ((wd (f) 2 : Nat) : Int), .int .u64 ((wd (f) 3 : Nat) : Int)]] w fun e w' => ∃ g cap, e = .returned (.slice (some ⟨g, 0, none⟩) 256 cap) ∧ w.heap.size ≤ g ∧ g < w'.heap.size ∧ Fv w' g 256 (bo f) ∧ Wrt w' g 0 256 ∧ Below w.heap.size w w' := by
  obtain ⟨w1, b1⟩ := box w f
  have E1 : Hid _ := b1.eq
  have B1 : Hid (Below w.heap.size w w1) := b1.bel
  have F1 : Hid (Fam w1 w.heap.size 0 4 (wi f)) := b1.fam
  have s1 : w.heap.size < w1.heap.size := by have := b1.size; omega
  obtain ⟨i0, hi, hz0, hz1, hz2⟩ := infoB
  clear b1
  go_enter Tryz.func107, Tryz.ntmps107
  go_wp2_with fail
  rw [← E1.out]
  clear E1
  go_loopw [3, 4] (fun v vj wr => ∃ j : Nat, j ≤ 256 ∧ vj = .int .i64 j ∧ OwnB wr w1.heap.size v j f ∧ Below w1.heap.size w1 wr) (fun _ vj _ => 256 - (intOf vj).toNat)
  case atStart => exact ⟨0, Nat.zero_le _, rfl, World.ownsRow_nil _ _ _ _, Below.refl _ _⟩
  case round =>
    obtain ⟨j, hj, rfl, hown, hbel⟩ := hrel
    by_cases hlt : j < 256
    · obtain ⟨a0, a1, a2, a3⟩ := c4 (F1.out.below hbel s1)
      have c1 : Hid _ := refHas_any f j hlt wr
      have Hown : Hid (OwnB wr w1.heap.size u3 j f) := hown
      have Hbel : Hid _ := hbel
      have hjI : (j : Int) < 256 := by omega
      clear hbel hown
      go_wp2_with fail
      refine Calls.mono (Hid.out c1) ?_; rintro e w2 ⟨rfl, b2⟩
      have O2 : w2.ownsRow w1.heap.size 4 1 u3 j (cbs f j) := owns_below Hown.out b2 (Nat.le_refl _)
      have BB : Hid (Below w1.heap.size w1 w2) := Hbel.out.trans (b2.mono Hbel.out.size)
      have hsz : w1.heap.size ≤ w2.heap.size := BB.out.size
      clear b2 Hown Hbel a0 a1 a2 a3
      go_wp2_with (at_builtin; refine wpList_append_own _ rfl _ _ 131 rfl w1.heap.size 4 i0 (.bool false) 1 1 Tryz.underlying131 hi hz0 hz1 hz2 rfl (by decide) _ _ _ rfl (O2.alloc _) ⟨w2.heap.size, 0, none⟩ 1 1 [.bool (f j)] rfl rfl ?c1 ?c2 ?c3 ?c4 ?c5 ?_)
      case c1 =>
        intro j' u hj'
        match j', hj' with
        | 0, hj' => simp at hj'; subst hj'; simp [Addr.add]
      case c2 => intro u hu; simp at hu; subst hu; rfl
      case c3 => unfold maxLen; omega
      case c4 => omega
      case c5 => simp; omega
      · intro v' w3 hown' hgrow _
        have HR : Hid (Below w1.heap.size w1 w3) := grow_below hsz BB.out O2 hgrow
        have HO : Hid (OwnB w3 w1.heap.size v' (j + 1) f) := by show OwnB _ _ _ _ _; unfold OwnB; rw [cbs_succ]; exact hown'
        clear hown' hgrow O2 BB
        go_wp2_with fail
        go_roundw
        case rel => exact ⟨j + 1, by omega, by go_num, HO.out, HR.out⟩
        case measure => simp [intOf]; omega
    · obtain rfl : j = 256 := by omega
      obtain ⟨g, cap, rfl, hg, hgl, hF, hW⟩ := ownB_fam hown (by omega)
      have H6 : Hid (Below w.heap.size w wr) := B1.out.trans (hbel.mono B1.out.size)
      have H7 : Hid (Fv wr g 256 (bo f) ∧ Wrt wr g 0 256) := ⟨hF, hW⟩
      clear hown hbel hF hW
      go_wp2_with fail
      go_ret
      exact ⟨g, cap, rfl, by omega, hgl, H7.out.1, H7.out.2, H6.out⟩

end Cls

end Go.Proofs.YtbnnobeahliffaaGreatDoor

namespace Go.Proofs.YtbnnobeahliffaaGreatDoor
open Go.RowKit
namespace Cls

/-- The words while word k is being made: its bits from j on. -/
def mkw (f : Nat → Bool) (k j : Nat) : Nat → Int := fun t => if t < k then wi f t else if t = k then ((wd f k / 2 ^ j : Nat) : Int) else 0

theorem mkw_start (f : Nat → Bool) : ∀ t, t < 4 → wi (fun _ => false) t = mkw f 0 64 t := fun t _ => by
  unfold mkw wi
  rw [wd_none, wd_gone]
  simp

theorem mkw_next (f : Nat → Bool) (k : Nat) : ∀ t, t < 4 → mkw f k 0 t = mkw f (k + 1) 64 t := fun t _ => by
  unfold mkw
  rw [wd_gone]
  by_cases h1 : t < k
  · rw [if_pos h1, if_pos (by omega)]
  · by_cases h2 : t = k
    · subst h2; rw [if_neg h1, if_pos rfl, if_pos (by omega)]; unfold wi; simp
    · rw [if_neg h1, if_neg h2, if_neg (by omega)]; simp

theorem mkw_end (f : Nat → Bool) : ∀ t, t < 4 → mkw f 4 64 t = wi f t := fun t ht => by unfold mkw; rw [if_pos ht]

theorem mkw_at (f : Nat → Bool) (k j : Nat) : mkw f k j k = ((wd f k / 2 ^ j : Nat) : Int) := by unfold mkw; simp

theorem mkw_upd (f : Nat → Bool) (k j i : Nat) : ∀ t, t < 4 → upd (mkw f k j) k ((wd f k / 2 ^ i : Nat) : Int) t = mkw f k i t := fun t _ => by
  by_cases h : t = k
  · subst h; rw [upd_at, mkw_at]
  · rw [upd_off h]; unfold mkw; rw [if_neg h, if_neg h]

theorem upd_upd (H : Nat → Int) (k : Nat) (x y : Int) : upd (upd H k x) k y = upd H k y := by
  funext t
  by_cases h : t = k
  · subst h; rw [upd_at, upd_at]
  · rw [upd_off h, upd_off h, upd_off h]

set_option maxHeartbeats 2000000 in
theorem refMake_any (f : Nat → Bool) (g cap : Nat) (w : World) (hg : Fv w g 256 (bo f)) :
    Calls Tryz.prog 121 #[.slice (some ⟨g, 0, none⟩) 256 cap] w fun e w' => e = .returned (.agg #[.int .u64 ((wd (f) 0 : Nat) : Int), .int .u64 ((wd (f) 1 : Nat) : Int), .int .u64 ((wd (f) 2 : Nat) : Int), .int .u64 ((wd (f) 3 : Nat) : Int)]) ∧ Below w.heap.size w w' := by
  have hgl : g < w.heap.size := hg.lt (by omega)
  obtain ⟨v, gc, e1, hgc, hC⟩ := two_boxes w
  have E1 : Hid _ := e1
  have HG : Hid _ := hgc
  have hgc' : w.heap.size < gc := by omega
  have HV : Hid (Fv v g 256 (bo f)) := hg.below hC.bel hgl
  have HF : Hid (Fam v gc 0 4 (mkw f 0 64)) := hC.cf.congr (mkw_start f)
  have HWC : Hid (Wrt v gc 0 4) := hC.cw
  have HR : Hid (Fam v w.heap.size 0 4 (wi (fun _ => false))) := hC.rf
  have HWR : Hid (Wrt v w.heap.size 0 4) := hC.rw
  have HB : Hid (Below w.heap.size w v) := hC.bel
  clear e1 hgc hC hg
  go_enter Tryz.func121, Tryz.ntmps121
  go_wp2_with fail
  rw [← E1.out, HG.out]
  clear E1 HG
  go_loopw [4] (fun vk wr => ∃ k : Nat, k ≤ 4 ∧ vk = .int .i64 k ∧ Fam wr gc 0 4 (mkw f k 64) ∧ Wrote (fun b' _ => b' = gc) v wr) (fun vk _ => 4 - (intOf vk).toNat)
  case atStart => exact ⟨0, Nat.zero_le _, rfl, HF.out, Wrote.refl _ _⟩
  case round =>
    rename World => wo
    obtain ⟨k, hk, rfl, hF, hW⟩ := hrel
    have HFo : Hid (Fam wo gc 0 4 (mkw f k 64)) := hF
    have HWo : Hid (Wrote (fun b' _ => b' = gc) v wo) := hW
    clear hF hW
    by_cases hk4 : k < 4
    · have hkI : (k : Int) < 4 := by omega
      go_wp2_with fail
      go_loopw [5] (fun vi wr => ∃ j : Nat, j ≤ 64 ∧ vi = .int .i64 ((j : Int) - 1) ∧ Fam wr gc 0 4 (mkw f k j) ∧ Wrote (fun b' _ => b' = gc) v wr) (fun vi _ => ((intOf vi) + 1).toNat)
      case atStart => exact ⟨64, Nat.le_refl _, rfl, HFo.out, HWo.out⟩
      case round =>
        obtain ⟨j, hj, rfl, hF, hW⟩ := hrel
        by_cases hj0 : j = 0
        · subst hj0
          have HFi : Hid (Fam wr gc 0 4 (mkw f (k + 1) 64)) := hF.congr (mkw_next f k)
          have HWi : Hid (Wrote (fun b' _ => b' = gc) v wr) := hW
          clear hF hW
          go_wp2_with fail
          go_roundw
          case rel => exact ⟨k + 1, by omega, by go_num, HFi.out, HWi.out⟩
          case measure => simp [intOf]; omega
        · obtain ⟨i, rfl⟩ : ∃ i, j = i + 1 := ⟨j - 1, by omega⟩
          have hck : wr.cell? ⟨gc, k, none⟩ = some (.int .u64 ((wd f k / 2 ^ (i + 1) : Nat) : Int)) := by
            have := hF.zero k hk4
            rwa [mkw_at] at this
          have hfk : wr.frozen? ⟨gc, k, none⟩ = false := (hW.wrt HWC.out).zero k hk4
          have hbit : wr.cell? ⟨g, 64 * k + i, none⟩ = some (.bool (f (64 * k + i))) := (Fv.wrote (show Fv v g 256 (bo f) from HV.out) hW (fun t _ e => by omega)) (64 * k + i) (by omega)
          have hh := half_at f k i (by omega)
          have hlt : wd f k / 2 ^ i < 18446744073709551616 := Nat.lt_of_le_of_lt (Nat.div_le_self _ _) (wd_lt f k)
          have hup := mkw_upd f k (i + 1) i
          have HFi : Hid (Fam wr gc 0 4 (mkw f k (i + 1))) := hF
          have HWi : Hid (Wrote (fun b' _ => b' = gc) v wr) := hW
          have hjI : ((i + 1 : Nat) : Int) - 1 = (i : Int) := by omega
          have hiI : (i : Int) < 64 := by omega
          obtain ⟨q, hq⟩ : ∃ q, 64 * k + i = q := ⟨_, rfl⟩
          rw [hq] at hbit hh
          have hii : 64 * (k : Int) + (i : Int) = (q : Int) := by omega
          have hq256 : (q : Int) < 256 := by omega
          clear hq
          clear hF hW
          have HUP : Hid _ := hup
          have HH : Hid _ := hh
          generalize wd f k / 2 ^ (i + 1) = X at *
          have hx2 : 2 * (X : Int) < 18446744073709551616 := by have := HH.out; omega
          rw [hjI]
          clear hjI
          cases hb : f q with
          | true =>
            rw [hb] at hbit
            have hx : ((wd f k / 2 ^ i : Nat) : Int) = 2 * (X : Int) + 1 := by have := HH.out; rw [hb] at this; simp at this; omega
            have hx3 : 2 * (X : Int) + 1 < 18446744073709551616 := by omega
            have HX : Hid _ := hx
            clear hup hh hlt hx hb
            go_wp2_with fail
            go_roundw
            case rel =>
              refine ⟨i, by omega, by go_num, ?_, ((HWi.out.setCell rfl _).setCell rfl _)⟩
              refine Fam.congr ((HFi.out.setCell_at hk4 (by omega) _).setCell_at hk4 (by omega) _) (fun t ht => ?_)
              rw [upd_upd]
              have := HUP.out t ht
              rw [HX.out] at this
              exact this
            case measure => simp [intOf]
          | false =>
            rw [hb] at hbit
            have hx : ((wd f k / 2 ^ i : Nat) : Int) = 2 * (X : Int) := by have := HH.out; rw [hb] at this; simp at this; omega
            have HX : Hid _ := hx
            clear hup hh hlt hx hb
            go_wp2_with fail
            go_roundw
            case rel =>
              refine ⟨i, by omega, by go_num, ?_, HWi.out.setCell rfl _⟩
              refine Fam.congr (HFi.out.setCell_at hk4 (by omega) _) (fun t ht => ?_)
              have := HUP.out t ht
              rw [HX.out] at this
              exact this
            case measure => simp [intOf]
    · obtain rfl : k = 4 := by omega
      have FZ : Hid (Fam wo w.heap.size 0 4 (wi (fun _ => false))) := Wrote.fam HWo.out HR.out (fun t _ e => by omega)
      obtain ⟨q0, q1, q2, q3⟩ := c4 (HFo.out.congr (mkw_end f))
      obtain ⟨z0, z1, z2, z3⟩ := c4 FZ.out
      obtain ⟨f0, f1, f2, f3⟩ := f4 (Wrote.wrt HWo.out HWR.out)
      have hbel : Hid (Below w.heap.size w wo) := HB.out.trans (HWo.out.below (fun b o e => by omega))
      go_wp2_with fail
      refine bodyPost_ret (results_set4 rfl _ wo w.heap.size f rfl FZ.out) rfl ?_
      exact ⟨rfl, set4_below hbel.out (Nat.le_refl _) _⟩

end Cls

end Go.Proofs.YtbnnobeahliffaaGreatDoor

namespace Go.Proofs.YtbnnobeahliffaaGreatDoor
open Go.RowKit
namespace Cls

/-- A result's box (still empty) and a row of bools that is being filled. -/
structure Rs (B : Nat) (w wr : World) (gr gi : Nat) (f : Nat → Bool) : Prop where
  bel : Below B w wr
  rf : Fam wr gr 0 4 (wi (fun _ => false))
  rw : Wrt wr gr 0 4
  iv : Fv wr gi 256 (bo f)
  iw : Wrt wr gi 0 256
  ne : gr ≠ gi
  br : B ≤ gr
  bi : B ≤ gi

theorem Rs.set {B : Nat} {w wr : World} {gr gi : Nat} {f g : Nat → Bool} (h : Rs B w wr gr gi f) {j : Nat} (hj : j < 256) {x : Bool} (hx : g j = x) (hg : ∀ t, t < 256 → t ≠ j → g t = f t) : Rs B w (wr.setCell ⟨gi, j, none⟩ (.bool x)) gr gi g :=
  ⟨h.bel.trans (((Wrote.refl (fun b' _ => b' = gi) wr).setCell rfl _).below (fun b' o e => by have := h.bi; omega)), h.rf.setCell_ne h.ne _, h.rw.setCell _ _, (h.iv.set hj _).congr (fun t ht => by
    unfold updV bo
    by_cases e : t = j
    · subst e; rw [if_pos rfl, hx]
    · rw [if_neg e, hg t ht e]), h.iw.setCell _ _, h.ne, h.br, h.bi⟩

theorem Rs.congr {B : Nat} {w wr : World} {gr gi : Nat} {f g : Nat → Bool} (h : Rs B w wr gr gi f) (e : ∀ t, t < 256 → f t = g t) : Rs B w wr gr gi g :=
  ⟨h.bel, h.rf, h.rw, h.iv.congr (fun t ht => by unfold bo; rw [e t ht]), h.iw, h.ne, h.br, h.bi⟩

theorem Rs.size {B : Nat} {w wr : World} {gr gi : Nat} {f : Nat → Bool} (h : Rs B w wr gr gi f) : B ≤ wr.heap.size := Nat.le_of_lt (Nat.lt_of_le_of_lt h.bi (h.iv.lt (by omega)))

/-- What stands behind the last call: the result's box is still there. -/
theorem Rs.last {B : Nat} {w wr w' : World} {gr gi : Nat} {f : Nat → Bool} (h : Rs B w wr gr gi f) (hb : Below wr.heap.size wr w') : Below B w w' ∧ Fam w' gr 0 4 (wi (fun _ => false)) ∧ Wrt w' gr 0 4 :=
  ⟨h.bel.trans (hb.mono h.size), h.rf.below hb (h.rf.lt (by omega)), h.rw.below hb (h.rf.lt (by omega))⟩

theorem made (w : World) : ∃ ob v gi, (∀ w : World, (Instr.makeSlice 131 (.int .i64 256) (.int .i64 256)).run Tryz.prog w = .ok (.slice (some ⟨w.heap.size, 0, none⟩) 256 256) (w.alloc ob)) ∧ v = (w.alloc (.cells #[.int .u64 0, .int .u64 0, .int .u64 0, .int .u64 0] 67)).alloc ob ∧ w.heap.size + 1 = gi ∧ Rs w.heap.size w v w.heap.size gi (fun _ => false) := by
  obtain ⟨w1, b1⟩ := box0 w
  have s1 : w.heap.size < w1.heap.size := by have := b1.size; omega
  have bel : Below w1.heap.size w1 (w1.alloc (.cells (madeCells #[.bool false] 256) 4)) := (Below.refl _ _).alloc (Nat.le_refl _) _
  have hi : (Tryz.prog.info? 4).map (fun i => (i.zero, i.size, i.bytes)) = some (some (.bool false), 1, 1) := by kernel_rfl
  have hm := fun w => run_make_row' (P := Tryz.prog) 131 4 (.bool false) 1 Tryz.underlying131 hi rfl .i64 .i64 256 (by omega) (by omega) w
  have fv := fv_made w1 (.bool false) 256 4
  have wv := wv_made w1 (.bool false) 256 4
  generalize Obj.cells (madeCells #[.bool false] 256) 4 = ob at *
  refine ⟨ob, w1.alloc ob, w1.heap.size, hm, by rw [b1.eq], b1.size.symm, b1.bel.trans (bel.mono b1.bel.size), b1.fam.below bel s1, b1.wrt.below bel s1, fv, wv, by omega, Nat.le_refl _, by omega⟩

set_option maxHeartbeats 1000000 in
theorem refRange_any (a b : Nat) (ha : a < 256) (hb : b < 256) (w : World) :
    Calls Tryz.prog 101 #[.int .u8 a, .int .u8 b] w fun e w' => e = .returned (.agg #[.int .u64 ((wd (rg a (b + 1)) 0 : Nat) : Int), .int .u64 ((wd (rg a (b + 1)) 1 : Nat) : Int), .int .u64 ((wd (rg a (b + 1)) 2 : Nat) : Int), .int .u64 ((wd (rg a (b + 1)) 3 : Nat) : Int)]) ∧ Below w.heap.size w w' := by
  obtain ⟨ob, v, gi, hmk, e1, hgi, hR⟩ := made w
  have E1 : Hid _ := e1
  have HG : Hid _ := hgi
  have HR : Hid (Rs w.heap.size w v w.heap.size gi (rg a a)) := by show Rs _ _ _ _ _ _; rw [rg_none (Nat.le_refl a)]; exact hR
  clear e1 hgi hR
  go_enter Tryz.func101, Tryz.ntmps101
  go_wp2_with fail
  rw [← E1.out, HG.out]
  clear E1 hmk
  go_loopw [6] (fun vk wr => ∃ n : Nat, a ≤ n ∧ n ≤ 256 ∧ (n ≤ b + 1 ∨ n = a) ∧ vk = .int .i64 n ∧ Rs w.heap.size w wr w.heap.size gi (rg a n)) (fun vk _ => 256 - (intOf vk).toNat)
  case atStart => exact ⟨a, Nat.le_refl _, by omega, by omega, by first | rfl | simp, HR.out⟩
  case round =>
    obtain ⟨n, hna, hn, hor, rfl, hF⟩ := hrel
    have HF : Hid (Rs w.heap.size w wr w.heap.size gi (rg a n)) := hF
    by_cases hlt : n ≤ b
    · have hi1 : (n : Int) ≤ (b : Int) := by omega
      have hi2 : (n : Int) < 256 := by omega
      have hn6 : n < 256 := by omega
      have hsu : Hid _ := rg_succ hna
      have hck := hF.iv n hn6
      have hfk := hF.iw.zero n hn6
      have HS : Hid (∀ t, t ≠ n → rg a (n + 1) t = rg a n t) := fun t ht => by
        rw [hsu.out]; unfold ins; rw [beq_eq_false_iff_ne.2 ht, Bool.or_false]
      have HS1 : Hid (rg a (n + 1) n = true) := by show _ = _; rw [hsu.out]; unfold ins; simp
      clear hF hor
      go_wp2_with fail
      go_roundw
      case rel => exact ⟨n + 1, by omega, by omega, by omega, by go_num, HF.out.set hn6 HS1.out (fun t _ e => HS.out t e)⟩
      case measure => simp [intOf]; omega
    · have e : rg a n = rg a (b + 1) := by
        rcases hor with h | h
        · rw [show n = b + 1 by omega]
        · rw [rg_none (by omega), rg_none (by omega)]
      rw [e] at hF
      have c1 : Hid _ := refMake_any (rg a (b + 1)) gi 256 wr hF.iv
      have hi1 : ¬ (n : Int) ≤ (b : Int) := by omega
      clear hF e hor
      go_wp2_with fail
      refine Calls.mono (Hid.out c1) ?_; rintro e w' ⟨rfl, b'⟩
      have HL : Hid (Below w.heap.size w w' ∧ Fam w' w.heap.size 0 4 (wi (fun _ => false)) ∧ Wrt w' w.heap.size 0 4) := HF.out.last b'
      obtain ⟨z0, z1, z2, z3⟩ := c4 HL.out.2.1
      obtain ⟨f0, f1, f2, f3⟩ := f4 HL.out.2.2
      clear b'
      go_wp2_with fail
      refine bodyPost_ret (results_set4 rfl _ w' w.heap.size (rg a (b + 1)) rfl HL.out.2.1) rfl ?_
      exact ⟨rfl, set4_below HL.out.1 (Nat.le_refl _) _⟩

set_option maxHeartbeats 1000000 in
theorem refFull_any (w : World) :
    Calls Tryz.prog 97 #[] w fun e w' => e = .returned (.agg #[.int .u64 ((wd (rg 0 256) 0 : Nat) : Int), .int .u64 ((wd (rg 0 256) 1 : Nat) : Int), .int .u64 ((wd (rg 0 256) 2 : Nat) : Int), .int .u64 ((wd (rg 0 256) 3 : Nat) : Int)]) ∧ Below w.heap.size w w' := by
  obtain ⟨w1, b1⟩ := box0 w
  have E1 : Hid _ := b1.eq
  have s1 : w.heap.size < w1.heap.size := by have := b1.size; omega
  have B1 : Hid (Below w.heap.size w w1) := b1.bel
  have RF : Hid (Fam w1 w.heap.size 0 4 (wi (fun _ => false))) := b1.fam
  have RW : Hid (Wrt w1 w.heap.size 0 4) := b1.wrt
  have c1 : Hid _ := refRange_any 0 255 (by omega) (by omega) w1
  clear b1
  go_enter Tryz.func97, Tryz.ntmps97
  go_wp2_with fail
  rw [← E1.out]
  clear E1
  refine Calls.mono (Hid.out c1) ?_; rintro e w2 ⟨rfl, b2⟩
  have FZ : Hid (Fam w2 w.heap.size 0 4 (wi (fun _ => false))) := RF.out.below b2 s1
  obtain ⟨z0, z1, z2, z3⟩ := c4 FZ.out
  obtain ⟨f0, f1, f2, f3⟩ := f4 (Wrt.below RW.out b2 s1)
  have B2 : Hid (Below w.heap.size w w2) := B1.out.trans (b2.mono B1.out.size)
  clear b2
  go_wp2_with fail
  refine bodyPost_ret (results_set4 rfl _ w2 w.heap.size (rg 0 256) rfl FZ.out) rfl ?_
  exact ⟨rfl, set4_below B2.out (Nat.le_refl _) _⟩

/-- The first n turned, or put together with others. -/
def mixf (n : Nat) (h f : Nat → Bool) : Nat → Bool := fun t => if t < n then h t else f t

theorem mixf_zero (h f : Nat → Bool) : mixf 0 h f = f := by funext t; simp [mixf]

theorem mixf_at (n : Nat) (h f : Nat → Bool) : mixf n h f n = f n := by simp [mixf]

theorem mixf_new (n : Nat) (h f : Nat → Bool) : mixf (n + 1) h f n = h n := by simp [mixf]

theorem mixf_off {n t : Nat} (h f : Nat → Bool) (e : t ≠ n) : mixf (n + 1) h f t = mixf n h f t := by
  unfold mixf
  by_cases h1 : t < n
  · rw [if_pos h1, if_pos (by omega)]
  · rw [if_neg h1, if_neg (by omega)]

theorem mixf_end (h f : Nat → Bool) : ∀ t, t < 256 → mixf 256 h f t = h t := fun t ht => by unfold mixf; rw [if_pos ht]

set_option maxHeartbeats 1000000 in
theorem refNot_any (f : Nat → Bool) (w : World) :
    Calls Tryz.prog 119 #[.agg #[.int .u64 ((wd (f) 0 : Nat) : Int), .int .u64 ((wd (f) 1 : Nat) : Int), .int .u64 ((wd (f) 2 : Nat) : Int), .int .u64 ((wd (f) 3 : Nat) : Int)]] w fun e w' => e = .returned (.agg #[.int .u64 ((wd (fun b => !f b) 0 : Nat) : Int), .int .u64 ((wd (fun b => !f b) 1 : Nat) : Int), .int .u64 ((wd (fun b => !f b) 2 : Nat) : Int), .int .u64 ((wd (fun b => !f b) 3 : Nat) : Int)]) ∧ Below w.heap.size w w' := by
  obtain ⟨w1, b1⟩ := box w f
  obtain ⟨w2, b2⟩ := box0 w1
  have E1 : Hid _ := b1.eq
  have E2 : Hid _ := b2.eq
  have s1 : w.heap.size < w1.heap.size := by have := b1.size; omega
  have s2 : w1.heap.size < w2.heap.size := by have := b2.size; omega
  have B2 : Hid (Below w.heap.size w w2) := b1.bel.trans (b2.bel.mono b1.bel.size)
  obtain ⟨a0, a1, a2, a3⟩ := c4 (b1.fam.below b2.bel s1)
  have RF : Hid (Fam w2 w1.heap.size 0 4 (wi (fun _ => false))) := b2.fam
  have RW : Hid (Wrt w2 w1.heap.size 0 4) := b2.wrt
  have HS : Hid (w.heap.size + 1 = w1.heap.size) := b1.size.symm
  have c1 : Hid _ := refBytes_any f w2
  clear b1 b2
  generalize w1.heap.size = gr at *
  go_enter Tryz.func119, Tryz.ntmps119
  go_wp2_with fail
  rw [← E1.out, ← E2.out, HS.out]
  clear E1 E2 HS
  refine Calls.mono (Hid.out c1) ?_; rintro e w3 ⟨g, cap, rfl, hg, hgl, hV, hW, b3⟩
  have R3 : Hid (Rs w.heap.size w w3 gr g (mixf 0 (fun b => !f b) f)) := by
    show Rs _ _ _ _ _ _
    rw [mixf_zero]
    exact ⟨B2.out.trans (b3.mono B2.out.size), RF.out.below b3 s2, Wrt.below RW.out b3 s2, hV, hW, by omega, by omega, by omega⟩
  clear hV hW b3 a0 a1 a2 a3 c1
  go_wp2_with fail
  go_loopw [4] (fun vk wr => ∃ n : Nat, n ≤ 256 ∧ vk = .int .i64 n ∧ Rs w.heap.size w wr gr g (mixf n (fun b => !f b) f)) (fun vk _ => 256 - (intOf vk).toNat)
  case atStart => exact ⟨0, Nat.zero_le _, rfl, R3.out⟩
  case round =>
    obtain ⟨n, hn, rfl, hF⟩ := hrel
    have HF : Hid (Rs w.heap.size w wr gr g (mixf n (fun b => !f b) f)) := hF
    by_cases hlt : n < 256
    · have hi2 : (n : Int) < 256 := by omega
      have hck : wr.cell? ⟨g, n, none⟩ = some (.bool (f n)) := by have := hF.iv n hlt; unfold bo at this; rwa [mixf_at] at this
      have hfk := hF.iw.zero n hlt
      clear hF
      go_wp2_with fail
      go_roundw
      case rel => exact ⟨n + 1, by omega, by go_num, HF.out.set hlt (mixf_new _ _ _) (fun t _ e => mixf_off _ _ e)⟩
      case measure => simp [intOf]; omega
    · obtain rfl : n = 256 := by omega
      have c2 : Hid _ := refMake_any (fun b => !f b) g cap wr (hF.congr (mixf_end _ _)).iv
      clear hF
      go_wp2_with fail
      refine Calls.mono (Hid.out c2) ?_; rintro e w' ⟨rfl, b'⟩
      have HL : Hid (Below w.heap.size w w' ∧ Fam w' gr 0 4 (wi (fun _ => false)) ∧ Wrt w' gr 0 4) := HF.out.last b'
      obtain ⟨z0, z1, z2, z3⟩ := c4 HL.out.2.1
      obtain ⟨f0, f1, f2, f3⟩ := f4 HL.out.2.2
      clear b'
      go_wp2_with fail
      refine bodyPost_ret (results_set4 rfl _ w' gr (fun b => !f b) rfl HL.out.2.1) rfl ?_
      exact ⟨rfl, set4_below HL.out.1 (by omega) _⟩

set_option maxHeartbeats 1000000 in
theorem refOr_any (f h : Nat → Bool) (w : World) :
    Calls Tryz.prog 118 #[.agg #[.int .u64 ((wd (f) 0 : Nat) : Int), .int .u64 ((wd (f) 1 : Nat) : Int), .int .u64 ((wd (f) 2 : Nat) : Int), .int .u64 ((wd (f) 3 : Nat) : Int)], .agg #[.int .u64 ((wd (h) 0 : Nat) : Int), .int .u64 ((wd (h) 1 : Nat) : Int), .int .u64 ((wd (h) 2 : Nat) : Int), .int .u64 ((wd (h) 3 : Nat) : Int)]] w fun e w' => e = .returned (.agg #[.int .u64 ((wd (fun b => f b || h b) 0 : Nat) : Int), .int .u64 ((wd (fun b => f b || h b) 1 : Nat) : Int), .int .u64 ((wd (fun b => f b || h b) 2 : Nat) : Int), .int .u64 ((wd (fun b => f b || h b) 3 : Nat) : Int)]) ∧ Below w.heap.size w w' := by
  obtain ⟨w1, b1⟩ := box w f
  obtain ⟨wb, bb⟩ := box w1 h
  obtain ⟨w2, b2⟩ := box0 wb
  have E1 : Hid _ := b1.eq
  have Eb : Hid _ := bb.eq
  have E2 : Hid _ := b2.eq
  have s1 : w.heap.size < w1.heap.size := by have := b1.size; omega
  have sb : w1.heap.size < wb.heap.size := by have := bb.size; omega
  have s2 : wb.heap.size < w2.heap.size := by have := b2.size; omega
  have C2 : Below w1.heap.size w1 w2 := bb.bel.trans (b2.bel.mono bb.bel.size)
  have B2 : Hid (Below w.heap.size w w2) := b1.bel.trans (C2.mono b1.bel.size)
  obtain ⟨a0, a1, a2, a3⟩ := c4 (b1.fam.below C2 s1)
  have FH : Hid (Fam w2 w1.heap.size 0 4 (wi h)) := bb.fam.below b2.bel sb
  have RF : Hid (Fam w2 wb.heap.size 0 4 (wi (fun _ => false))) := b2.fam
  have RW : Hid (Wrt w2 wb.heap.size 0 4) := b2.wrt
  have HS : Hid (w.heap.size + 1 = w1.heap.size) := b1.size.symm
  have HS2 : Hid (w1.heap.size + 1 = wb.heap.size) := bb.size.symm
  have c1 : Hid _ := refBytes_any f w2
  clear b1 bb b2 C2
  generalize w1.heap.size = gh at *
  generalize wb.heap.size = gr at *
  go_enter Tryz.func118, Tryz.ntmps118
  go_wp2_with fail
  rw [← E1.out, ← Eb.out, ← E2.out, HS.out, HS2.out]
  clear E1 Eb E2 HS HS2
  refine Calls.mono (Hid.out c1) ?_; rintro e w3 ⟨g, cap, rfl, hg, hgl, hV, hW, b3⟩
  have R3 : Hid (Rs w.heap.size w w3 gr g f) := ⟨B2.out.trans (b3.mono B2.out.size), RF.out.below b3 s2, Wrt.below RW.out b3 s2, hV, hW, by omega, by omega, by omega⟩
  obtain ⟨k0, k1, k2, k3⟩ := c4 (FH.out.below b3 (by omega))
  have c3 : Hid _ := refBytes_any h w3
  clear hV hW b3 a0 a1 a2 a3 c1
  go_wp2_with fail
  refine Calls.mono (Hid.out c3) ?_; rintro e w4 ⟨go, capo, rfl, hgo, hgol, hVo, _, b4⟩
  have R4 : Hid (Rs w.heap.size w w4 gr g (mixf 0 (fun b => f b || h b) f)) := by
    show Rs _ _ _ _ _ _
    rw [mixf_zero]
    have R := R3.out
    have l1 : gr < w3.heap.size := R.rf.lt (by omega)
    exact ⟨R.bel.trans (b4.mono R.size), R.rf.below b4 l1, R.rw.below b4 l1, R.iv.below b4 hgl, R.iw.below b4 hgl, R.ne, R.br, R.bi⟩
  have HO : Hid (Fv w4 go 256 (bo h)) := hVo
  have hne : go ≠ g := by omega
  clear hVo b4 k0 k1 k2 k3 c3 R3
  go_wp2_with fail
  go_loopw [7] (fun vk wr => ∃ n : Nat, n ≤ 256 ∧ vk = .int .i64 n ∧ Rs w.heap.size w wr gr g (mixf n (fun b => f b || h b) f) ∧ Fv wr go 256 (bo h)) (fun vk _ => 256 - (intOf vk).toNat)
  case atStart => exact ⟨0, Nat.zero_le _, rfl, R4.out, HO.out⟩
  case round =>
    obtain ⟨n, hn, rfl, hF, hO⟩ := hrel
    have HF : Hid (Rs w.heap.size w wr gr g (mixf n (fun b => f b || h b) f)) := hF
    by_cases hlt : n < 256
    · have hi2 : (n : Int) < 256 := by omega
      have hck : wr.cell? ⟨g, n, none⟩ = some (.bool (f n)) := by have := hF.iv n hlt; unfold bo at this; rwa [mixf_at] at this
      have hok : wr.cell? ⟨go, n, none⟩ = some (.bool (h n)) := hO n hlt
      have hfk := hF.iw.zero n hlt
      have HO' : Hid (∀ x, Fv (wr.setCell ⟨g, n, none⟩ x) go 256 (bo h)) := fun x t ht => by rw [cell_setCell_ne _ _ _ _ _ _ (Or.inl hne)]; exact hO t ht
      clear hF hO
      have HX : Hid (∀ y, y = (f n || h n) → Rs w.heap.size w (wr.setCell ⟨g, n, none⟩ (.bool y)) gr g (mixf (n + 1) (fun b => f b || h b) f)) := fun y hy => HF.out.set hlt ((mixf_new _ _ _).trans hy.symm) (fun t _ e => mixf_off _ _ e)
      generalize h n = hv at *
      generalize f n = fv at *
      cases fv with
      | true =>
        go_wp2_with fail
        all_goals
          go_roundw
          case rel => exact ⟨n + 1, by omega, by go_num, (HX.out _ (by simp)), HO'.out _⟩
          case measure => simp [intOf]; omega
      | false =>
        go_wp2_with fail
        all_goals
          go_roundw
          case rel => exact ⟨n + 1, by omega, by go_num, (HX.out _ (by simp)), HO'.out _⟩
          case measure => simp [intOf]; omega
    · obtain rfl : n = 256 := by omega
      have c2 : Hid _ := refMake_any (fun b => f b || h b) g cap wr (hF.congr (mixf_end _ _)).iv
      clear hF hO
      go_wp2_with fail
      refine Calls.mono (Hid.out c2) ?_; rintro e w' ⟨rfl, b'⟩
      have HL : Hid (Below w.heap.size w w' ∧ Fam w' gr 0 4 (wi (fun _ => false)) ∧ Wrt w' gr 0 4) := HF.out.last b'
      obtain ⟨z0, z1, z2, z3⟩ := c4 HL.out.2.1
      obtain ⟨f0, f1, f2, f3⟩ := f4 HL.out.2.2
      clear b'
      go_wp2_with fail
      refine bodyPost_ret (results_set4 rfl _ w' gr (fun b => f b || h b) rfl HL.out.2.1) rfl ?_
      exact ⟨rfl, set4_below HL.out.1 (by omega) _⟩

end Cls

end Go.Proofs.YtbnnobeahliffaaGreatDoor

namespace Go.Proofs.YtbnnobeahliffaaGreatDoor
open Go.RowKit
namespace Cls

theorem cb_snoc (f : Nat → Bool) (n : Nat) : cb f 0 (n + 1) = cb f 0 n + (f n).toNat := by
  rw [cb_add, Nat.zero_add]
  congr 1
  simp [cb]

theorem cb_none (f : Nat → Bool) (n : Nat) : cb f 0 n = 0 ↔ ∀ x, x < n → f x = false := by
  induction n with
  | zero => simp [cb]
  | succ n ih =>
    rw [cb_snoc]
    constructor
    · intro h x hx
      by_cases e : x = n
      · subst e; cases hb : f x with
        | false => rfl
        | true => rw [hb] at h; simp at h
      · exact ih.1 (by omega) x (by omega)
    · intro h
      rw [ih.2 (fun x hx => h x (by omega)), h n (by omega)]
      rfl

theorem cb_one (f : Nat → Bool) (n : Nat) : cb f 0 n = 1 ↔ ∃ b, b < n ∧ ∀ x, x < n → f x = (x == b) := by
  induction n with
  | zero => simp [cb]
  | succ n ih =>
    rw [cb_snoc]
    constructor
    · intro h
      cases hb : f n with
      | true =>
        rw [hb] at h
        have h0 : cb f 0 n = 0 := by simp at h; omega
        refine ⟨n, by omega, fun x hx => ?_⟩
        by_cases e : x = n
        · subst e; simp [hb]
        · rw [(cb_none f n).1 h0 x (by omega), beq_eq_false_iff_ne.2 e]
      | false =>
        rw [hb] at h
        obtain ⟨b, h1, h2⟩ := ih.1 (by simp at h; omega)
        refine ⟨b, by omega, fun x hx => ?_⟩
        by_cases e : x = n
        · subst e; rw [hb, beq_eq_false_iff_ne.2 (by omega)]
        · exact h2 x (by omega)
    · rintro ⟨b, h1, h2⟩
      by_cases e : b = n
      · subst e
        have : cb f 0 b = 0 := (cb_none f b).2 (fun x hx => by rw [h2 x (by omega), beq_eq_false_iff_ne.2 (by omega)])
        rw [this, h2 b (by omega)]
        simp
      · have : cb f 0 n = 1 := ih.2 ⟨b, by omega, fun x hx => h2 x (by omega)⟩
        rw [this, h2 n (by omega), beq_eq_false_iff_ne.2 (by omega)]
        rfl

set_option maxHeartbeats 1000000 in
theorem refSize_any (f : Nat → Bool) (w : World) :
    Calls Tryz.prog 86 #[.agg #[.int .u64 ((wd (f) 0 : Nat) : Int), .int .u64 ((wd (f) 1 : Nat) : Int), .int .u64 ((wd (f) 2 : Nat) : Int), .int .u64 ((wd (f) 3 : Nat) : Int)]] w fun e w' => e = .returned (.int .i64 ((cb f 0 256 : Nat) : Int)) ∧ Below w.heap.size w w' := by
  obtain ⟨w1, b1⟩ := box w f
  have E1 : Hid _ := b1.eq
  have B1 : Hid (Below w.heap.size w w1) := b1.bel
  have c1 : Hid _ := refBytes_any f w1
  clear b1
  go_enter Tryz.func86, Tryz.ntmps86
  go_wp2_with fail
  rw [← E1.out]
  clear E1
  refine Calls.mono (Hid.out c1) ?_; rintro e w2 ⟨g, cap, rfl, hg, hgl, hV, _, b2⟩
  have B2 : Hid (Below w.heap.size w w2) := B1.out.trans (b2.mono B1.out.size)
  have HV : Hid (Fv w2 g 256 (bo f)) := hV
  clear b2 hV c1 B1
  go_wp2_with fail
  go_loopw [3, 5] (fun vn vb wr => wr = w2 ∧ ∃ b : Nat, b ≤ 256 ∧ vb = .int .i64 b ∧ vn = .int .i64 ((cb f 0 b : Nat) : Int)) (fun _ vb _ => 256 - (intOf vb).toNat)
  case atStart => exact ⟨rfl, 0, Nat.zero_le _, rfl, by simp [cb]⟩
  case round =>
    obtain ⟨rfl, b, hb, rfl, rfl⟩ := hrel
    by_cases hlt : b < 256
    · have hbI : (b : Int) < 256 := by omega
      have hck : wr.cell? ⟨g, b, none⟩ = some (.bool (f b)) := HV.out b hlt
      have hs : Hid _ := cb_snoc f b
      have hle := cb_le f 0 b
      obtain ⟨N, hN⟩ : ∃ N, cb f 0 b = N := ⟨_, rfl⟩
      rw [hN] at hs hle ⊢
      have hNI : (N : Int) ≤ 256 := by omega
      clear hN hle
      cases hfb : f b with
      | true =>
        rw [hfb] at hck
        go_wp2_with fail
        go_roundw
        case rel => exact ⟨trivial, b + 1, by omega, by go_num, by rw [hs.out, hfb]; go_num⟩
        case measure => simp [intOf]; omega
      | false =>
        rw [hfb] at hck
        go_wp2_with fail
        go_roundw
        case rel => exact ⟨trivial, b + 1, by omega, by go_num, by rw [hs.out, hfb]; simp⟩
        case measure => simp [intOf]; omega
    · obtain rfl : b = 256 := by omega
      go_wp2_with fail
      go_ret
      exact ⟨rfl, B2.out⟩

set_option maxHeartbeats 1000000 in
theorem refSingle_any (f : Nat → Bool) (w : World) :
    Calls Tryz.prog 87 #[.agg #[.int .u64 ((wd (f) 0 : Nat) : Int), .int .u64 ((wd (f) 1 : Nat) : Int), .int .u64 ((wd (f) 2 : Nat) : Int), .int .u64 ((wd (f) 3 : Nat) : Int)]] w fun e w' => (∃ (b : Nat) (t : Bool), Sgl f b t ∧ b < 256 ∧ e = .returned (.tuple #[.int .u8 (b : Int), .bool t])) ∧ Below w.heap.size w w' := by
  obtain ⟨w1, b1⟩ := box w f
  have E1 : Hid _ := b1.eq
  have B1 : Hid (Below w.heap.size w w1) := b1.bel
  have F1 : Hid (Fam w1 w.heap.size 0 4 (wi f)) := b1.fam
  have s1 : w.heap.size < w1.heap.size := by have := b1.size; omega
  have c1 : Hid _ := refSize_any f w1
  clear b1
  by_cases h1 : cb f 0 256 = 1
  · obtain ⟨c, hc, hf⟩ := (cb_one f 256).1 h1
    rw [h1] at c1
    have HF : Hid _ := hf
    clear h1 hf
    go_enter Tryz.func87, Tryz.ntmps87
    go_wp2_with fail
    rw [← E1.out]
    clear E1
    refine Calls.mono (Hid.out c1) ?_; rintro e w2 ⟨rfl, b2⟩
    have B2 : Hid (Below w.heap.size w w2) := B1.out.trans (b2.mono B1.out.size)
    have F2 : Hid (Fam w2 w.heap.size 0 4 (wi f)) := F1.out.below b2 s1
    have s2 : w.heap.size < w2.heap.size := Nat.lt_of_lt_of_le s1 b2.size
    clear b2 c1 B1 F1
    go_wp2_with fail
    go_loopw [4] (fun vb wr => ∃ b : Nat, b ≤ c ∧ vb = .int .i64 b ∧ Below w2.heap.size w2 wr) (fun vb _ => 256 - (intOf vb).toNat)
    case atStart => exact ⟨0, Nat.zero_le _, rfl, Below.refl _ _⟩
    case round =>
      obtain ⟨b, hb, rfl, hbel⟩ := hrel
      have hbI : (b : Int) < 256 := by omega
      obtain ⟨a0, a1, a2, a3⟩ := c4 (F2.out.below hbel s2)
      have c3 : Hid _ := refHas_any f b (by omega) wr
      have HB : Hid (Below w2.heap.size w2 wr) := hbel
      have hfb : f b = (b == c) := HF.out b (by omega)
      clear hbel
      by_cases hlt : b < c
      · rw [hfb, beq_eq_false_iff_ne.2 (by omega : b ≠ c)] at c3
        clear hfb
        go_wp2_with fail
        refine Calls.mono (Hid.out c3) ?_; rintro e w3 ⟨rfl, b3⟩
        have HB3 : Hid (Below w2.heap.size w2 w3) := HB.out.trans (b3.mono HB.out.size)
        clear b3
        go_wp2_with fail
        go_roundw
        case rel => exact ⟨b + 1, by omega, by go_num, HB3.out⟩
        case measure => simp [intOf]; omega
      · obtain rfl : b = c := by omega
        rw [hfb, beq_self_eq_true] at c3
        clear hfb
        go_wp2_with fail
        refine Calls.mono (Hid.out c3) ?_; rintro e w3 ⟨rfl, b3⟩
        have HB3 : Hid (Below w.heap.size w w3) := B2.out.trans ((HB.out.trans (b3.mono HB.out.size)).mono B2.out.size)
        clear b3
        go_wp2_with fail
        go_ret2
        exact ⟨⟨b, true, Or.inl ⟨rfl, hc, HF.out⟩, hc, rfl⟩, HB3.out⟩
  · have HN : Hid (Sgl f 0 false) := Or.inr ⟨rfl, rfl, fun h => h1 ((cb_one f 256).2 h)⟩
    obtain ⟨N, hN⟩ : ∃ N, cb f 0 256 = N := ⟨_, rfl⟩
    rw [hN] at c1 h1
    have hne : ¬ (N : Int) = 1 := by omega
    clear hN h1
    go_enter Tryz.func87, Tryz.ntmps87
    go_wp2_with fail
    rw [← E1.out]
    clear E1
    refine Calls.mono (Hid.out c1) ?_; rintro e w2 ⟨rfl, b2⟩
    have B2 : Hid (Below w.heap.size w w2) := B1.out.trans (b2.mono B1.out.size)
    clear b2 c1 B1 F1
    go_wp2_with fail
    go_ret2
    exact ⟨⟨0, false, HN.out, by omega, rfl⟩, B2.out⟩

end Cls

end Go.Proofs.YtbnnobeahliffaaGreatDoor
