/- Plain mathematics of layer 3: digits of mixed primes; the number that has them. No condition; nothing of the program. -/
import Derived.Test.YtcppcfbcgopmoaaDoorResMath
namespace Go.Proofs.YtcppcfbcgopmoaaDoor.Res

/-- The digits. -/
def d0 (x : Int) : Int := x % 998244353
def d1 (x y : Int) : Int := ((y - d0 x) * 47450712) % 167772161
def d2 (x y z : Int) : Int := ((z - (d0 x + d1 x y * 998244353)) * 115990628) % 469762049
/-- The number of the digits. -/
def nm (x y z : Int) : Int := d0 x + 998244353 * (d1 x y + 167772161 * d2 x y z)
theorem pr0 : pr 0 = 998244353 := by decide
theorem pr1 : pr 1 = 167772161 := by decide
theorem pr2 : pr 2 = 469762049 := by decide
theorem md0 (a : Int) : md 0 a = a % 998244353 := by rw [md_some (by decide), pr0]
theorem md1 (a : Int) : md 1 a = a % 167772161 := by rw [md_some (by decide), pr1]
theorem md2 (a : Int) : md 2 a = a % 469762049 := by rw [md_some (by decide), pr2]
theorem d0_bd (x : Int) : 0 ≤ d0 x ∧ d0 x < 998244353 := by unfold d0; omega
theorem d1_bd (x y : Int) : 0 ≤ d1 x y ∧ d1 x y < 167772161 := by unfold d1; omega
theorem d2_bd (x y z : Int) : 0 ≤ d2 x y z ∧ d2 x y z < 469762049 := by unfold d2; omega
theorem nm_nonneg (x y z : Int) : 0 ≤ nm x y z := by
  have := d0_bd x; have := d1_bd x y; have := d2_bd x y z
  unfold nm; omega
theorem nm_res0 (x y z : Int) : md 0 (nm x y z) = md 0 x := by rw [md0, md0]; unfold nm d0; omega
theorem nm_res1 (x y z : Int) : md 1 (nm x y z) = md 1 y := by
  rw [md1, md1]; unfold nm d1
  generalize d0 x = a
  generalize d2 x y z = c
  omega
theorem nm_res2 (x y z : Int) : md 2 (nm x y z) = md 2 z := by
  rw [md2, md2]; unfold nm d2
  generalize d0 x = a
  generalize d1 x y = b
  omega
/-- A number below the product of the primes is that of its residues. -/
theorem nm_back {x y z n : Int} (h0 : 0 ≤ n) (h1 : n < 78674626319836206717730817) (e0 : md 0 x = md 0 n) (e1 : md 1 y = md 1 n) (e2 : md 2 z = md 2 n) : nm x y z = n := by
  rw [md0, md0] at e0
  rw [md1, md1] at e1
  rw [md2, md2] at e2
  have a0 : d0 x = n % 998244353 := e0
  have a1 : d1 x y = n / 998244353 % 167772161 := by
    unfold d1; rw [a0]; omega
  have a2 : d2 x y z = n / 998244353 / 167772161 % 469762049 := by
    unfold d2; rw [a1, a0]
    have : n = n % 998244353 + 998244353 * (n / 998244353) := by omega
    have : n / 998244353 = n / 998244353 % 167772161 + 167772161 * (n / 998244353 / 167772161) := by omega
    generalize n / 998244353 / 167772161 = q at *
    generalize n / 998244353 % 167772161 = b at *
    generalize n / 998244353 = u at *
    generalize n % 998244353 = a at *
    omega
  unfold nm; rw [a0, a1, a2]
  have : n / 998244353 / 167772161 < 469762049 := by omega
  omega
/-- What is taken off, place by place. -/
def ah (D : Nat → Int) (k : Nat) : Nat → Int
  | 0 => 0
  | i + 1 => md k (md k (ah D k i * pr ((k : Int) - 1 - i)) + D (k - 1 - i))
/-- Three numbers as a row. -/
def r3 (x y z : Int) (t : Nat) : Int := if t = 0 then x else if t = 1 then y else z
theorem ah_nonneg (D : Nat → Int) (k i : Nat) : 0 ≤ ah D k i := by
  cases i with
  | zero => exact Int.le_refl 0
  | succ i => exact md_nonneg _ _
theorem digit (x y z : Int) (k : Nat) (hk : k < 3) : md k (md k (r3 x y z k - ah (r3 (d0 x) (d1 x y) (d2 x y z)) k k) * r3 1 47450712 115990628 k) = r3 (d0 x) (d1 x y) (d2 x y z) k := by
  match k, hk with
  | 0, _ => show md 0 (md 0 (x - 0) * 1) = d0 x; rw [md0, md0]; unfold d0; omega
  | 1, _ =>
    show md 1 (md 1 (y - md 1 (md 1 (0 * pr 0) + d0 x)) * 47450712) = d1 x y
    rw [md1, md1, md1, md1, Int.zero_mul]; unfold d1
    generalize d0 x = a
    omega
  | 2, _ =>
    show md 2 (md 2 (z - md 2 (md 2 (md 2 (md 2 (0 * pr 1) + d1 x y) * pr 0) + d0 x)) * 115990628) = d2 x y z
    rw [md2, md2, md2, md2, md2, md2, Int.zero_mul, pr0]; unfold d2
    generalize d0 x = a
    generalize d1 x y = b
    omega
/-- The number, prime by prime from the last one. -/
def hn (x y z : Int) : Nat → Int
  | 0 => 0
  | 1 => d2 x y z
  | 2 => d2 x y z * 167772161 + d1 x y
  | _ => (d2 x y z * 167772161 + d1 x y) * 998244353 + d0 x
theorem hn_three (x y z : Int) : hn x y z 3 = nm x y z := by show (d2 x y z * 167772161 + d1 x y) * 998244353 + d0 x = _; unfold nm; omega
theorem hn_step (x y z : Int) (i j : Nat) (h : i + j = 2) : hn x y z (i + 1) = hn x y z i * pr j + r3 (d0 x) (d1 x y) (d2 x y z) j := by
  have : i = 0 ∨ i = 1 ∨ i = 2 := by omega
  rcases this with rfl | rfl | rfl
  · obtain rfl : j = 2 := by omega
    show d2 x y z = 0 * _ + d2 x y z
    omega
  · obtain rfl : j = 1 := by omega
    show _ = d2 x y z * pr 1 + d1 x y
    rw [pr1]; rfl
  · obtain rfl : j = 0 := by omega
    show _ = (d2 x y z * 167772161 + d1 x y) * pr 0 + d0 x
    rw [pr0]; rfl
theorem hn_nonneg (x y z : Int) (i : Nat) : 0 ≤ hn x y z i := by
  have := d0_bd x; have := d1_bd x y; have := d2_bd x y z
  unfold hn; split <;> omega
theorem hn_le (x y z : Int) (i : Nat) (hi : i ≤ 3) : hn x y z i ≤ nm x y z := by
  have := d0_bd x; have := d1_bd x y; have := d2_bd x y z
  unfold nm
  have : i = 0 ∨ i = 1 ∨ i = 2 ∨ i = 3 := by omega
  rcases this with rfl | rfl | rfl | rfl
  · show 0 ≤ _; omega
  · show d2 x y z ≤ _; omega
  · show d2 x y z * 167772161 + d1 x y ≤ _; omega
  · show (d2 x y z * 167772161 + d1 x y) * 998244353 + d0 x ≤ _; omega
theorem r3_nonneg {x y z : Int} (hx : 0 ≤ x) (hy : 0 ≤ y) (hz : 0 ≤ z) (t : Nat) : 0 ≤ r3 x y z t := by unfold r3; split; exact hx; split; exact hy; exact hz
theorem dig_nonneg (x y z : Int) (t : Nat) : 0 ≤ r3 (d0 x) (d1 x y) (d2 x y z) t := r3_nonneg (d0_bd x).1 (d1_bd x y).1 (d2_bd x y z).1 t
/-- The product of the primes ahead. -/
def pa (k : Nat) : Nat → Int
  | 0 => 1
  | i + 1 => md k (pa k i * pr i)
theorem pa_nonneg (k i : Nat) : 0 ≤ pa k i := by
  cases i with
  | zero => show (0 : Int) ≤ 1; omega
  | succ i => exact md_nonneg _ _
theorem pa_inv (k : Nat) (hk : k < 3) : md k (pa k k) ≠ 0 ∧ md k ((pa k k) ^ (pr k - 2).toNat) = r3 1 47450712 115990628 k := by
  match k, hk with
  | 0, _ => exact ⟨by decide, inv_unique (k := 0) (a := 1) (inv_right 0 1 (by decide) (by decide) (by decide)) (by decide) (md_nonneg _ _) (md_lt (by decide) _) (by decide) (by decide)⟩
  | 1, _ => exact ⟨by decide, inv_unique (k := 1) (a := 159383548) (inv_right 1 159383548 (by decide) (by decide) (by decide)) (by decide) (md_nonneg _ _) (md_lt (by decide) _) (by decide) (by decide)⟩
  | 2, _ => exact ⟨by decide, inv_unique (k := 2) (a := 339738624) (inv_right 2 339738624 (by decide) (by decide) (by decide)) (by decide) (md_nonneg _ _) (md_lt (by decide) _) (by decide) (by decide)⟩
end Go.Proofs.YtcppcfbcgopmoaaDoor.Res
