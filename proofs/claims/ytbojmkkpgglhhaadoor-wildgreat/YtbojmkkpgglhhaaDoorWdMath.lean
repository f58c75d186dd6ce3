/- Sums that are 0 where a leaf misses nothing: plain. -/
import Derived.Test.YtbojmkkpgglhhaaDoorNvA
import Derived.Test.YtbojmkkpgglhhaaDoorMathA
namespace Go.Proofs.YtbojmkkpgglhhaaDoor
open Go.RowKit
namespace Cls

/-- The value of a set: 1 more than its one byte. -/
def vl (f : Nat → Bool) : Nat := if sg f = true then bt f + 1 else 0

theorem vl_le (f : Nat → Bool) : vl f ≤ 256 := by
  unfold vl
  have := bt_lt f
  split <;> omega

theorem vl_one {f : Nat → Bool} (h : sg f = true) : vl f = bt f + 1 := if_pos h

theorem vl_none {f : Nat → Bool} (h : sg f = false) : vl f = 0 := by unfold vl; rw [h]; rfl

/-- A term of the sums. -/
def wt (p b : Int) : Int := p * ((p - b) * (p - b))

theorem wt_le {p b : Int} (h0 : 0 ≤ p) (h1 : p ≤ 256) (h2 : 1 ≤ b) (h3 : b ≤ 256) : 0 ≤ wt p b ∧ wt p b ≤ 16777216 := by
  unfold wt
  have hs : 0 ≤ (p - b) * (p - b) := by
    rcases Int.le_total 0 (p - b) with h | h
    · exact Int.mul_nonneg h h
    · exact Int.mul_nonneg_of_nonpos_of_nonpos h h
  have hl : (p - b) * (p - b) ≤ 65536 := by
    have e : (p - b) * (p - b) ≤ 256 * 256 := by
      rcases Int.le_total 0 (p - b) with h | h
      · exact Int.mul_le_mul (by omega) (by omega) h (by omega)
      · have := Int.mul_le_mul (show -(p - b) ≤ 256 by omega) (show -(p - b) ≤ 256 by omega) (by omega) (by omega)
        rwa [Int.neg_mul_neg] at this
    omega
  refine ⟨Int.mul_nonneg h0 hs, ?_⟩
  have := Int.mul_le_mul h1 hl hs (by omega : (0 : Int) ≤ 256)
  omega

/-- The sum at place i, over the first m elements. -/
def ws (P : Nat → Nat → Bool) (s : ByteArray) (i : Nat) : Nat → Int
  | 0 => 0
  | m + 1 => ws P s i m + wt (vl (P m)) ((byt s (i + m) : Int) + 1)
  termination_by m => m

theorem ws_zero (P : Nat → Nat → Bool) (s : ByteArray) (i : Nat) : ws P s i 0 = 0 := by rw [ws]

theorem ws_succ (P : Nat → Nat → Bool) (s : ByteArray) (i m : Nat) : ws P s i (m + 1) = ws P s i m + wt (vl (P m)) ((byt s (i + m) : Int) + 1) := by rw [ws]

theorem ws_le (P : Nat → Nat → Bool) (s : ByteArray) (i m : Nat) : 0 ≤ ws P s i m ∧ ws P s i m ≤ 16777216 * (m : Int) := by
  induction m with
  | zero => rw [ws_zero]; omega
  | succ m ih =>
    rw [ws_succ]
    have h1 := vl_le (P m)
    have h2 := byt_lt s (i + m)
    have h := wt_le (p := (vl (P m) : Int)) (b := (byt s (i + m) : Int) + 1) (by omega) (by omega) (by omega) (by omega)
    omega

/-- The weight of the first m elements. -/
def wg (P : Nat → Nat → Bool) : Nat → Int
  | 0 => 0
  | m + 1 => wg P m + (vl (P m) : Int) * (vl (P m)) * (vl (P m))
  termination_by m => m

theorem wg_zero (P : Nat → Nat → Bool) : wg P 0 = 0 := by rw [wg]

theorem wg_succ (P : Nat → Nat → Bool) (m : Nat) : wg P (m + 1) = wg P m + (vl (P m) : Int) * (vl (P m)) * (vl (P m)) := by rw [wg]

theorem wg_le (P : Nat → Nat → Bool) (m : Nat) : 0 ≤ wg P m ∧ wg P m ≤ 16777216 * (m : Int) := by
  induction m with
  | zero => rw [wg_zero]; omega
  | succ m ih =>
    rw [wg_succ]
    have h1 := vl_le (P m)
    obtain ⟨v, hv⟩ : ∃ v, vl (P m) = v := ⟨_, rfl⟩
    rw [hv] at h1 ⊢
    have h2 : (0 : Int) ≤ (v : Int) * v := Int.mul_nonneg (by omega) (by omega)
    have h3 : (v : Int) * v ≤ 256 * 256 := Int.mul_le_mul (by omega) (by omega) (by omega) (by omega)
    have h4 : (0 : Int) ≤ (v : Int) * v * v := Int.mul_nonneg h2 (by omega)
    have h5 : (v : Int) * v * v ≤ 256 * 256 * 256 := Int.mul_le_mul h3 (by omega) (by omega) (by omega)
    omega

/-- The sum, put together of two rows along the text. -/
theorem ws_cr (P : Nat → Nat → Bool) (s : ByteArray) (i m : Nat) :
    ws P s i m = wg P m - 2 * Res.cr m (fun j => (vl (P j) : Int) * vl (P j)) (fun t => (byt s t : Int) + 1) i + Res.cr m (fun j => (vl (P j) : Int)) (fun t => ((byt s t : Int) + 1) * ((byt s t : Int) + 1)) i := by
  induction m with
  | zero => rw [ws_zero, wg_zero]; simp [Res.cr, Res.sm]
  | succ m ih =>
    rw [ws_succ, wg_succ, ih]
    unfold Res.cr
    simp only [Res.sm]
    generalize Res.sm m (fun j => (vl (P j) : Int) * vl (P j) * ((byt s (i + j) : Int) + 1)) = A
    generalize Res.sm m (fun j => (vl (P j) : Int) * (((byt s (i + j) : Int) + 1) * ((byt s (i + j) : Int) + 1))) = B
    generalize (vl (P m) : Int) = p
    generalize (byt s (i + m) : Int) + 1 = b
    unfold wt
    have e : p * ((p - b) * (p - b)) = p * p * p - 2 * (p * p * b) + p * (b * b) := by
      rw [Int.sub_mul, Int.mul_sub, Int.mul_sub, Int.mul_sub, Int.mul_sub, Int.mul_sub, Int.mul_comm b p, ← Int.mul_assoc p p p, ← Int.mul_assoc p p b]
      omega
    rw [e, Int.mul_add]
    omega

/-- Of a plain leaf a sum is 0 just where nothing is missed. -/
theorem ws_mis (P : Nat → Nat → Bool) (s : ByteArray) (i m : Nat) (h : ∀ t, t < m → sg (P t) = true ∨ fr (P t) = true) : ws P s i m = 0 ↔ mis P s i m = 0 := by
  induction m with
  | zero => rw [ws_zero, mis_zero]; simp
  | succ m ih =>
    have ih := ih (fun t ht => h t (by omega))
    rw [ws_succ, mis_succ]
    have h1 := (ws_le P s i m).1
    have hv := vl_le (P m)
    have hb := byt_lt s (i + m)
    have h2 := (wt_le (p := (vl (P m) : Int)) (b := (byt s (i + m) : Int) + 1) (by omega) (by omega) (by omega) (by omega)).1
    have key : wt (vl (P m)) ((byt s (i + m) : Int) + 1) = 0 ↔ (!P m (byt s (i + m))).toNat = 0 := by
      rcases sgl_sg (P m) with ⟨hs, hlt, hx⟩ | ⟨hs, _, _⟩
      · rw [vl_one hs, hx _ hb]
        unfold wt
        constructor
        · intro hz
          rcases Int.mul_eq_zero.1 hz with e | e
          · omega
          · rcases Int.mul_eq_zero.1 e with e | e
            all_goals
              have : byt s (i + m) = bt (P m) := by omega
              simp [this]
        · intro hz
          have : byt s (i + m) = bt (P m) := by simpa using hz
          rw [this]
          simp
      · rw [vl_none hs]
        have hf : fr (P m) = true := by
          rcases h m (by omega) with e | e
          · rw [hs] at e; cases e
          · exact e
        rw [(fr_iff (P m)).1 hf _ hb]
        simp [wt]
    constructor
    · intro hz
      rw [ih.1 (by omega), key.1 (by omega)]
    · intro hz
      rw [ih.2 (by omega), key.2 (by omega)]
      rfl

end Cls
end Go.Proofs.YtbojmkkpgglhhaaDoor
