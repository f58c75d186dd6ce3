/- What the sums of layer 10 tell: plain. -/
import Derived.Test.YtbojmkkpgglhhaaDoorWdMath
import Derived.Test.YtbojmkkpgglhhaaDoorBlkMath
import Derived.Test.YtbojmkkpgglhhaaDoorNvA
namespace Go.Proofs.YtbojmkkpgglhhaaDoor
open Go.RowKit Res
namespace Cls

/-- May a leaf be found by sums? -/
def wok (P : Nat → Nat → Bool) (n : Nat) (K : Int) : Bool := rgt P n K && pln P n

/-- What is amiss. -/
def we (P : Nat → Nat → Bool) (n : Nat) (K : Int) (m : Nat) (z : Int) : Int := if wok P n K = false then 170 else if n ≤ m ∧ szb n z = false then 50 else 0

/-- How many sums there are. -/
def wn (P : Nat → Nat → Bool) (n : Nat) (K : Int) (m : Nat) (z : Int) : Nat := if we P n K m z = 0 then m + 1 - n else 0

/-- How many transforms. -/
def wq (P : Nat → Nat → Bool) (n : Nat) (K : Int) (m : Nat) (z : Int) : Int := if we P n K m z = 0 then 2 * ct n m z else 0

theorem we_form {P : Nat → Nat → Bool} {n m : Nat} {K z : Int} (h : wok P n K = false) : we P n K m z = 170 ∧ wn P n K m z = 0 ∧ wq P n K m z = 0 := by
  have e : we P n K m z = 170 := if_pos h
  exact ⟨e, if_neg (by rw [e]; decide), if_neg (by rw [e]; decide)⟩

theorem we_size {P : Nat → Nat → Bool} {n m : Nat} {K z : Int} (h : wok P n K = true) (h2 : n ≤ m) (h3 : szb n z = false) : we P n K m z = 50 ∧ wn P n K m z = 0 ∧ wq P n K m z = 0 := by
  have e : we P n K m z = 50 := by unfold we; rw [if_neg (by rw [h]; decide), if_pos ⟨h2, h3⟩]
  exact ⟨e, if_neg (by rw [e]; decide), if_neg (by rw [e]; decide)⟩

theorem we_ok {P : Nat → Nat → Bool} {n m : Nat} {K z : Int} (h : wok P n K = true) (h2 : m < n ∨ szb n z = true) : we P n K m z = 0 ∧ wn P n K m z = m + 1 - n ∧ wq P n K m z = 2 * ct n m z := by
  have e : we P n K m z = 0 := by
    unfold we
    rw [if_neg (by rw [h]; decide), if_neg (fun hh => h2.elim (fun h2 => by omega) (fun h2 => by rw [h2] at hh; cases hh.2))]
  exact ⟨e, if_pos e, if_pos e⟩

theorem wok_len {P : Nat → Nat → Bool} {n : Nat} {K : Int} (h : wok P n K = true) : 1 ≤ n ∧ n ≤ 64 ∧ rgt P n K = true ∧ pln P n = true := by
  unfold wok at h
  rw [Bool.and_eq_true] at h
  have h1 : 1 ≤ n ∧ n ≤ 64 ∧ 0 ≤ K ∧ K ≤ 64 := by
    by_cases hh : 1 ≤ n ∧ n ≤ 64 ∧ 0 ≤ K ∧ K ≤ 64
    · exact hh
    · have e : rgt P n K = false := by unfold rgt; rw [decide_eq_false hh]; rfl
      rw [e] at h
      cases h.1
  exact ⟨h1.1, h1.2.1, h.1, h.2⟩

/-- What the two rows along the text tell. -/
theorem bc_we {P : Nat → Nat → Bool} {n m : Nat} {K z : Int} (h : wok P n K = true) (A B : Nat → Int) (hA : ∀ t, A t ≤ 65536) (hB : ∀ t, B t ≤ 65536) :
    bc n m A B z = we P n K m z ∧ bl n m A B z = wn P n K m z ∧ (we P n K m z = 0 → bq n m A B z = ct n m z) := by
  obtain ⟨h1, h64, _, _⟩ := wok_len h
  by_cases hm : m < n
  · obtain ⟨e1, e2, e3⟩ := we_ok (m := m) (z := z) h (Or.inl hm)
    rw [e1, e2, bc_none (Or.inr hm), bl_none (Or.inr hm), bq_none (Or.inr hm)]
    refine ⟨rfl, by omega, fun _ => ?_⟩
    rw [ct_no (fun hh => by omega)]
  · have hno : ¬ (n = 0 ∨ m < n) := by omega
    cases hz : szb n z with
    | false =>
      obtain ⟨e1, e2, e3⟩ := we_size (m := m) (z := z) h (by omega) hz
      have hb := bc_size (P := A) (T := B) hno hz
      rw [e1, e2, hb, bl_no (by rw [hb]; decide)]
      exact ⟨rfl, rfl, fun h => by cases h⟩
    | true =>
      obtain ⟨e1, e2, e3⟩ := we_ok (m := m) (z := z) h (Or.inr hz)
      have g1 := gr_hi (M := 65536) (by omega) hA n
      have g2 := gr_hi (M := 65536) (by omega) hB m
      have g3 := gr_nonneg n A
      have g4 := gr_nonneg m B
      have hg : ¬ 18446744073709551616 ≤ gr n A * gr m B * (n : Int) := by
        have k1 : gr n A * gr m B ≤ 65536 * 65536 := Int.mul_le_mul g1 g2 g4 (by omega)
        have k2 : gr n A * gr m B * (n : Int) ≤ 65536 * 65536 * 64 := Int.mul_le_mul k1 (by omega) (by omega) (by omega)
        omega
      have hb := bc_ok (P := A) (T := B) hno hz hg
      rw [e1, e2, hb, bl_ok hno hb, bq_ok hb]
      exact ⟨rfl, rfl, fun _ => rfl⟩

/-- How many transforms there are at most. -/
theorem ct_small {n m : Nat} {z : Int} : 0 ≤ ct n m z ∧ ct n m z ≤ 6597069766659 := by
  have := ct_ge (n : Int) (m : Int) z
  omega

theorem res_cr (P : Nat → Nat → Bool) (s : ByteArray) (n i : Nat) :
    wg P n + Res.cr n (fun j => ((vl (P j) : Nat) : Int)) (fun t => (((byt s t : Nat) : Int) + 1) * (((byt s t : Nat) : Int) + 1)) i - 2 * Res.cr n (fun j => ((vl (P j) : Nat) : Int) * ((vl (P j) : Nat) : Int)) (fun t => ((byt s t : Nat) : Int) + 1) i = ws P s i n := by
  rw [ws_cr]
  omega

/-- The places of the sums that are 0. -/
theorem hts_mis (P : Nat → Nat → Bool) (s : ByteArray) (n N : Nat) (h : pln P n = true) : hts (fun i => ws P s i n) 0 N = hts (fun i => ((mis P s i n : Nat) : Int)) 0 N := by
  unfold hts
  refine List.filter_congr (fun i _ => ?_)
  rw [decide_eq_decide]
  have h1 := (ws_le P s i n).1
  have h2 := ws_mis P s i n (fun t ht => by
    have := (List.all_eq_true.1 h) t (by simpa using ht)
    simpa using this)
  show ws P s i n ≤ 0 ↔ ((mis P s i n : Nat) : Int) ≤ 0
  omega

end Cls
end Go.Proofs.YtbojmkkpgglhhaaDoor
