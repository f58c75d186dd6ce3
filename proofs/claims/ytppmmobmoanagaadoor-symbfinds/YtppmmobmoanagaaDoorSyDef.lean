/- What layer 11 tells: plain. -/
import Derived.Test.YtppmmobmoanagaaDoorSyMath
import Derived.Test.YtppmmobmoanagaaDoorBlkMath
import Derived.Test.YtppmmobmoanagaaDoorNvA
namespace Go.Proofs.YtppmmobmoanagaaDoor
open Go.RowKit Res
namespace Cls

/-- What is amiss. -/
def se (P : Nat → Nat → Bool) (n : Nat) (K : Int) (m : Nat) (z : Int) : Int := if rgt P n K = false then 170 else if n ≤ m ∧ szb n z = false then 50 else 0

/-- What is counted. -/
def sc (P : Nat → Nat → Bool) (n : Nat) (K : Int) (s : ByteArray) (z : Int) : List Nat := if se P n K s.size z = 0 then cts P n K s else []

/-- How many transforms. -/
def sq (P : Nat → Nat → Bool) (n : Nat) (K : Int) (m : Nat) (z : Int) : Int := if se P n K m z = 0 then ((kd P n).length : Int) * ct n m z else 0

/-- What is found. -/
def sf (P : Nat → Nat → Bool) (n : Nat) (K : Int) (s : ByteArray) (z : Int) : List Nat := if se P n K s.size z = 0 then fnd P n K s else []

theorem se_form {P : Nat → Nat → Bool} {n m : Nat} {K z : Int} (h : rgt P n K = false) : se P n K m z = 170 := if_pos h

theorem se_size {P : Nat → Nat → Bool} {n m : Nat} {K z : Int} (h : rgt P n K = true) (h2 : n ≤ m) (h3 : szb n z = false) : se P n K m z = 50 := by
  unfold se
  rw [if_neg (by rw [h]; decide), if_pos ⟨h2, h3⟩]

theorem se_ok {P : Nat → Nat → Bool} {n m : Nat} {K z : Int} (h : rgt P n K = true) (h2 : m < n ∨ szb n z = true) : se P n K m z = 0 := by
  unfold se
  rw [if_neg (by rw [h]; decide), if_neg (fun hh => h2.elim (fun h2 => by omega) (fun h2 => by rw [h2] at hh; cases hh.2))]

theorem se_rgt {P : Nat → Nat → Bool} {n m : Nat} {K z : Int} (h : se P n K m z = 0) : rgt P n K = true ∧ (m < n ∨ szb n z = true) := by
  cases hr : rgt P n K with
  | false => rw [se_form hr] at h; cases h
  | true =>
    refine ⟨rfl, ?_⟩
    by_cases hm : m < n
    · exact .inl hm
    · cases hz : szb n z with
      | true => exact .inr rfl
      | false => rw [se_size hr (by omega) hz] at h; cases h

theorem sc_ok {P : Nat → Nat → Bool} {n : Nat} {K z : Int} {s : ByteArray} (h : se P n K s.size z = 0) : sc P n K s z = cts P n K s := if_pos h

theorem sc_no {P : Nat → Nat → Bool} {n : Nat} {K z : Int} {s : ByteArray} (h : ¬ se P n K s.size z = 0) : sc P n K s z = [] := if_neg h

theorem sq_ok {P : Nat → Nat → Bool} {n m : Nat} {K z : Int} (h : se P n K m z = 0) : sq P n K m z = ((kd P n).length : Int) * ct n m z := if_pos h

theorem sq_no {P : Nat → Nat → Bool} {n m : Nat} {K z : Int} (h : ¬ se P n K m z = 0) : sq P n K m z = 0 := if_neg h

theorem sf_ok {P : Nat → Nat → Bool} {n : Nat} {K z : Int} {s : ByteArray} (h : se P n K s.size z = 0) : sf P n K s z = fnd P n K s := if_pos h

theorem sf_no {P : Nat → Nat → Bool} {n : Nat} {K z : Int} {s : ByteArray} (h : ¬ se P n K s.size z = 0) : sf P n K s z = [] := if_neg h

theorem sc_len (P : Nat → Nat → Bool) (n : Nat) (K : Int) (s : ByteArray) (z : Int) : (sc P n K s z).length ≤ s.size + 1 := by
  unfold sc
  split
  · rw [cts_len]; exact stn_le _ _ _ _
  · simp

theorem sf_len (P : Nat → Nat → Bool) (n : Nat) (K : Int) (s : ByteArray) (z : Int) : (sf P n K s z).length ≤ s.size + 1 := by
  unfold sf
  split
  · exact fnd_len P n K s
  · simp

/-- How many transforms a row slid along takes at most. -/
theorem ct_small11 {n m : Nat} {z : Int} : 0 ≤ ct n m z ∧ ct n m z ≤ 6597069766659 := by
  have := ct_ge (n : Int) (m : Int) z
  omega

theorem ct_zero {n m : Nat} {z : Int} (h1 : 1 ≤ n) (hm : n ≤ m) : ct n m z = 0 ↔ szb n z = false := by
  cases hz : szb n z with
  | false => exact ⟨fun _ => rfl, fun _ => ct_no (fun h => by rw [hz] at h; cases h.2)⟩
  | true =>
    refine ⟨fun h => ?_, fun h => (by cases h)⟩
    rw [ct_yes (by omega) (by omega) hz] at h
    generalize (min (m : Int) 1099511627776 - (n : Int) + 1 + (z - (n : Int) + 1) - 1) / (z - (n : Int) + 1) = q at h
    omega

/-- Marks slid along are told, all of them. -/
theorem bc_marks {n m : Nat} {z : Int} (h1 : 1 ≤ n) (h64 : n ≤ 1000000) (hm : n ≤ m) (A B : Nat → Int) (hA : ∀ t, A t ≤ 1) (hB : ∀ t, B t ≤ 1) :
    (szb n z = true → bc n m A B z = 0 ∧ bl n m A B z = m - n + 1 ∧ bq n m A B z = ct n m z) ∧ (szb n z = false → bc n m A B z = 50 ∧ bl n m A B z = 0 ∧ bq n m A B z = 0) := by
  have hno : ¬ (n = 0 ∨ m < n) := by omega
  refine ⟨fun hz => ?_, fun hz => ?_⟩
  · have g1 := gr_hi (M := 1) (by omega) hA n
    have g2 := gr_hi (M := 1) (by omega) hB m
    have g3 := gr_nonneg n A
    have g4 := gr_nonneg m B
    have hg : ¬ 18446744073709551616 ≤ gr n A * gr m B * (n : Int) := by
      have k1 : gr n A * gr m B ≤ 1 * 1 := Int.mul_le_mul g1 g2 g4 (by omega)
      have k2 : gr n A * gr m B * (n : Int) ≤ 1 * 1 * 1000000 := Int.mul_le_mul k1 (by omega) (by omega) (by omega)
      omega
    have hb := bc_ok (P := A) (T := B) hno hz hg
    rw [hb, bl_ok hno hb, bq_ok hb]
    exact ⟨rfl, by omega, rfl⟩
  · have hb := bc_size (P := A) (T := B) hno hz
    rw [hb, bl_no (by rw [hb]; decide), bq_no (by rw [hb]; decide)]
    exact ⟨rfl, rfl, rfl⟩

/-- What is found are the places of the counts that are few. -/
theorem sf_hts (P : Nat → Nat → Bool) (n : Nat) (K : Int) (s : ByteArray) (z : Int) : sf P n K s z = hts (fun t => (((sc P n K s z).getD t 0 : Nat) : Int)) K (sc P n K s z).length := by
  by_cases h : se P n K s.size z = 0
  · rw [sf_ok h, sc_ok h, fnd_hts, cts_len]
    refine hts_congr (fun i hi => ?_)
    have hl : i < (cts P n K s).length := by rw [cts_len]; exact hi
    have e : (cts P n K s).getD i 0 = mis P s i n := by rw [List.getD_eq_getElem?_getD, List.getElem?_eq_getElem hl, cts_at]; rfl
    rw [e]
  · rw [sf_no h, sc_no h]
    rfl

theorem sq_le {P : Nat → Nat → Bool} {n m : Nat} {K z : Int} (h : rgt P n K = true) : (0 ≤ ((kd P n).length : Int) * ct n m z ∧ ((kd P n).length : Int) * ct n m z ≤ 422212465066176) ∧ ∀ k : Nat, k ≤ (kd P n).length → 0 ≤ (k : Int) * ct n m z ∧ (k : Int) * ct n m z ≤ 422212465066176 := by
  obtain ⟨h1, h64, _, _⟩ := rgt_len h
  have hk := kd_len P n
  obtain ⟨c0, c1⟩ := ct_small11 (n := n) (m := m) (z := z)
  have all : ∀ k : Nat, k ≤ (kd P n).length → 0 ≤ (k : Int) * ct n m z ∧ (k : Int) * ct n m z ≤ 422212465066176 := fun k hk2 => by
    have g1 : (k : Int) * ct n m z ≤ 64 * 6597069766659 := Int.mul_le_mul (by omega) c1 c0 (by omega)
    have g2 : 0 ≤ (k : Int) * ct n m z := Int.mul_nonneg (by omega) c0
    omega
  exact ⟨all _ (Nat.le_refl _), all⟩

/-- One of a class's rows: its elements. -/
def kp (P : Nat → Nat → Bool) (c : Nat → Bool) : Nat → Int := fun j => ((sm (P j) c).toNat : Int)

/-- Its marks. -/
def km (s : ByteArray) (c : Nat → Bool) : Nat → Int := fun t => ((c (byt s t)).toNat : Int)

theorem bool_le (b : Bool) : (0 : Int) ≤ (b.toNat : Int) ∧ (b.toNat : Int) ≤ 1 := by cases b <;> decide

theorem hk_cr (P : Nat → Nat → Bool) (s : ByteArray) (i : Nat) (c : Nat → Bool) (m : Nat) : Res.cr m (kp P c) (km s c) i = hk P s i c m := rfl

end Cls
end Go.Proofs.YtppmmobmoanagaaDoor
