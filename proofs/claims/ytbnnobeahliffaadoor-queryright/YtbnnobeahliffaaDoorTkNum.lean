/- Contracts of beagleref13.kind and number. (Written by mktk2.py.) -/
import Derived.Test.YtbnnobeahliffaaDoorTkEsc
import Derived.Test.YtbnnobeahliffaaDoorTkLex
set_option linter.unusedVariables false
namespace Go.Proofs.YtbnnobeahliffaaDoor
open Go.RowKit
namespace Cls

def sgT : ByteArray := ⟨#[40, 41, 38, 124, 33, 62, 126]⟩

theorem knd_at : ∀ k, k < 7 → knd (byt sgT k) = k + 1 := by decide

theorem knd_none {b : Nat} (h : ∀ t, t < 7 → byt sgT t ≠ b) : knd b = 0 := by
  have h0 : 40 ≠ b := h 0 (by decide)
  have h1 : 41 ≠ b := h 1 (by decide)
  have h2 : 38 ≠ b := h 2 (by decide)
  have h3 : 124 ≠ b := h 3 (by decide)
  have h4 : 33 ≠ b := h 4 (by decide)
  have h5 : 62 ≠ b := h 5 (by decide)
  have h6 : 126 ≠ b := h 6 (by decide)
  unfold knd
  rw [if_neg (Ne.symm h0), if_neg (Ne.symm h1), if_neg (Ne.symm h2), if_neg (Ne.symm h3), if_neg (Ne.symm h4), if_neg (Ne.symm h5), if_neg (Ne.symm h6)]

/-- What is read of a number, as a 'Got'. -/
def rdn : Rd Nat → Value
  | .ok (v, n) => gotv 0 0 0 0 0 (.slice none 0 0) (v : Int) (n : Int) 0
  | .error (p, c) => gotv 0 0 0 0 0 (.slice none 0 0) 0 (p : Int) (c : Int)

theorem nml_step {s : ByteArray} {q tt n f : Nat} (h : nml s (s.size + 1) q 0 = nml s (f + 1) tt n) (h1 : tt < s.size) (h2 : dig (byt s tt) = true) : nml s (s.size + 1) q 0 = nml s f (tt + 1) (if n ≤ 1000000 then 10 * n + (byt s tt - 48) else n) := by
  rw [h, nml, if_pos ⟨h1, h2⟩]

theorem nml_stop {s : ByteArray} {q tt n f : Nat} (h : nml s (s.size + 1) q 0 = nml s (f + 1) tt n) (h1 : ¬ (tt < s.size ∧ dig (byt s tt) = true)) : nml s (s.size + 1) q 0 = (tt, n) := by
  rw [h, nml, if_neg h1]

theorem nmb_no {s : ByteArray} {q tt n : Nat} (h : nml s (s.size + 1) q 0 = (tt, n)) (hh : tt = q ∨ (byt s q = 48 ∧ q + 1 < tt) ∨ 1000000 < n) : nmb s q = .error (q, 134) := by
  unfold nmb
  rw [h]
  exact if_pos hh

theorem nmb_yes {s : ByteArray} {q tt n : Nat} (h : nml s (s.size + 1) q 0 = (tt, n)) (hh : ¬ (tt = q ∨ (byt s q = 48 ∧ q + 1 < tt) ∨ 1000000 < n)) : nmb s q = .ok (n, tt) := by
  unfold nmb
  rw [h]
  exact if_neg hh

end Cls
end Go.Proofs.YtbnnobeahliffaaDoor
