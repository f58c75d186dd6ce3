/- How many bits a word has: the reckoning by fields: plain. -/
import Derived.Test.YtodjjajofiaehaaDoorClsMath
namespace Go.Proofs.YtodjjajofiaehaaDoor
namespace Cls

/-- How many of n places from o on f has. -/
def cb (f : Nat → Bool) : Nat → Nat → Nat
  | _, 0 => 0
  | o, n + 1 => (f o).toNat + cb f (o + 1) n
  termination_by _ n => n
theorem cb_add (f : Nat → Bool) (o m n : Nat) : cb f o (m + n) = cb f o m + cb f (o + m) n := by
  induction m generalizing o with
  | zero => simp [cb]
  | succ m ih => rw [show m + 1 + n = (m + n) + 1 by omega, cb, cb, ih, show o + 1 + m = o + (m + 1) by omega]; omega
theorem cb_le (f : Nat → Bool) (o n : Nat) : cb f o n ≤ n := by
  induction n generalizing o with
  | zero => simp [cb]
  | succ n ih => have := ih (o + 1); have h2 : (f o).toNat ≤ 1 := Bool.toNat_le (f o); rw [cb]; omega
theorem wb_add (f : Nat → Bool) (o m n : Nat) : wb f o (m + n) = wb f o m + 2 ^ m * wb f (o + m) n := by
  induction m generalizing o with
  | zero => simp [wb]
  | succ m ih =>
    rw [show m + 1 + n = (m + n) + 1 by omega, wb, wb, ih, show o + 1 + m = o + (m + 1) by omega, Nat.pow_succ, Nat.mul_add, ← Nat.mul_assoc, Nat.mul_comm (2 ^ m) 2]
    omega
/-- Bytes as a number. -/
def B : List Nat → Nat
  | [] => 0
  | r :: l => r + 256 * B l
theorem and_byte (r q c d : Nat) (hr : r < 256) (hc : c < 256) : (r + 256 * q) &&& (c + 256 * d) = (r &&& c) + 256 * (q &&& d) := by
  have hrc : r &&& c < 2 ^ 8 := Nat.and_lt_two_pow _ hc
  rw [show r + 256 * q = 2 ^ 8 * q + r by omega, show c + 256 * d = 2 ^ 8 * d + c by omega, show (r &&& c) + 256 * (q &&& d) = 2 ^ 8 * (q &&& d) + (r &&& c) by omega]
  apply Nat.eq_of_testBit_eq
  intro j
  rw [Nat.testBit_and, Nat.testBit_two_pow_mul_add _ (show r < 2 ^ 8 from hr), Nat.testBit_two_pow_mul_add _ (show c < 2 ^ 8 from hc), Nat.testBit_two_pow_mul_add _ hrc]
  by_cases h : j < 8
  · simp [h, Nat.testBit_and]
  · simp [h, Nat.testBit_and]
def s1 (r : Nat) : Nat := (r / 2 &&& 85) + (r &&& 85)
def s2 (r : Nat) : Nat := (r / 4 &&& 51) + (r &&& 51)
def s3 (r : Nat) : Nat := (r / 16 + r) % 16
theorem one_byte : ∀ r, r < 256 → s1 r < 256 ∧ s2 (s1 r) % 16 ≤ 4 ∧ s2 (s1 r) / 16 ≤ 4 ∧ s3 (s2 (s1 r)) = r % 2 + r / 2 % 2 + r / 4 % 2 + r / 8 % 2 + r / 16 % 2 + r / 32 % 2 + r / 64 % 2 + r / 128 % 2 := by decide +kernel
theorem d1 : ∀ r, r < 256 → ∀ e, e < 2 → ((r / 2 + 128 * e) &&& 85) = (r / 2 &&& 85) := by decide +kernel
theorem d2 : ∀ r, r < 256 → ∀ e, e < 4 → ((r / 4 + 64 * e) &&& 51) = (r / 4 &&& 51) := by decide +kernel
theorem step1 (l : List Nat) (hl : ∀ r, r ∈ l → r < 256) : (B l / 2 &&& B (List.replicate l.length 85)) + (B l &&& B (List.replicate l.length 85)) = B (l.map s1) := by
  induction l with
  | nil => rfl
  | cons r l ih =>
    have hr := hl r (by simp)
    have i1 := ih (fun x hx => hl x (by simp [hx]))
    simp only [List.length_cons, List.replicate_succ, List.map_cons, B]
    rw [show (r + 256 * B l) / 2 = (r / 2 + 128 * (B l % 2)) + 256 * (B l / 2) by omega, and_byte _ _ _ _ (by omega) (by omega), and_byte _ _ _ _ hr (by omega), d1 r hr _ (Nat.mod_lt _ (by omega)), ← i1]
    unfold s1
    omega
theorem step2 (l : List Nat) (hl : ∀ r, r ∈ l → r < 256) : (B l / 4 &&& B (List.replicate l.length 51)) + (B l &&& B (List.replicate l.length 51)) = B (l.map s2) := by
  induction l with
  | nil => rfl
  | cons r l ih =>
    have hr := hl r (by simp)
    have i1 := ih (fun x hx => hl x (by simp [hx]))
    simp only [List.length_cons, List.replicate_succ, List.map_cons, B]
    rw [show (r + 256 * B l) / 4 = (r / 4 + 64 * (B l % 4)) + 256 * (B l / 4) by omega, and_byte _ _ _ _ (by omega) (by omega), and_byte _ _ _ _ hr (by omega), d2 r hr _ (Nat.mod_lt _ (by omega)), ← i1]
    unfold s2
    omega
theorem low4 (l : List Nat) (hl : ∀ r, r ∈ l → r % 16 ≤ 4 ∧ r / 16 ≤ 4) : B l % 16 ≤ 4 := by
  cases l with
  | nil => simp [B]
  | cons r l => have := hl r (by simp); rw [B]; omega
theorem step3 (l : List Nat) (hl : ∀ r, r ∈ l → r % 16 ≤ 4 ∧ r / 16 ≤ 4) : (B l / 16 + B l) &&& B (List.replicate l.length 15) = B (l.map s3) := by
  induction l with
  | nil => rfl
  | cons r l ih =>
    have hr := hl r (by simp)
    have hl2 : ∀ x, x ∈ l → x % 16 ≤ 4 ∧ x / 16 ≤ 4 := fun x hx => hl x (by simp [hx])
    have i1 := ih hl2
    have h4 := low4 l hl2
    simp only [List.length_cons, List.replicate_succ, List.map_cons, B]
    rw [show (r + 256 * B l) / 16 + (r + 256 * B l) = (r / 16 + 16 * (B l % 16) + r) + 256 * (B l / 16 + B l) by omega, and_byte _ _ _ _ (by omega) (by omega), i1]
    have e1 : (r / 16 + 16 * (B l % 16) + r) &&& 15 = (r / 16 + 16 * (B l % 16) + r) % 16 := Nat.and_two_pow_sub_one_eq_mod _ 4
    rw [e1]
    unfold s3
    omega
theorem byte_cb (f : Nat → Bool) (o : Nat) : s3 (s2 (s1 (wb f o 8))) = cb f o 8 := by
  have hlt := wb_lt f o 8
  rw [(one_byte _ hlt).2.2.2]
  simp only [wb, cb]
  generalize f o = b0
  generalize f (o + 1) = b1
  generalize f (o + 1 + 1) = b2
  generalize f (o + 1 + 1 + 1) = b3
  generalize f (o + 1 + 1 + 1 + 1) = b4
  generalize f (o + 1 + 1 + 1 + 1 + 1) = b5
  generalize f (o + 1 + 1 + 1 + 1 + 1 + 1) = b6
  generalize f (o + 1 + 1 + 1 + 1 + 1 + 1 + 1) = b7
  clear hlt
  revert b0 b1 b2 b3 b4 b5 b6 b7
  decide +kernel
/-- The bytes of a word. -/
def by8 (f : Nat → Bool) (o : Nat) : List Nat := [wb f o 8, wb f (o + 8) 8, wb f (o + 16) 8, wb f (o + 24) 8, wb f (o + 32) 8, wb f (o + 40) 8, wb f (o + 48) 8, wb f (o + 56) 8]
theorem by8_B (f : Nat → Bool) (o : Nat) : B (by8 f o) = wb f o 64 := by
  have e : ∀ o n, wb f o (8 + n) = wb f o 8 + 256 * wb f (o + 8) n := fun o n => wb_add f o 8 n
  rw [show (64 : Nat) = 8 + (8 + (8 + (8 + (8 + (8 + (8 + (8 + 0))))))) from rfl]
  rw [e, e, e, e, e, e, e, e]
  simp only [by8, B, Nat.add_assoc, Nat.reduceAdd, wb]
theorem wb8 (f : Nat → Bool) (o : Nat) : wb f o 8 < 256 := wb_lt f o 8
theorem by8_lt (f : Nat → Bool) (o : Nat) : ∀ r, r ∈ by8 f o → r < 256 := by
  intro r hr
  have a := wb8 f
  simp only [by8, List.mem_cons, List.not_mem_nil, or_false] at hr
  generalize wb f = W at *
  rcases hr with h | h | h | h | h | h | h | h <;> (rw [h]; exact a _)
theorem B_le (c : Nat) : ∀ l : List Nat, (∀ r, r ∈ l → r ≤ c) → 255 * B l + c ≤ c * 256 ^ l.length
  | [], _ => by simp [B]
  | r :: l, hl => by
    have h1 := B_le c l (fun x hx => hl x (by simp [hx]))
    have h2 := hl r (by simp)
    rw [List.length_cons, Nat.pow_succ, ← Nat.mul_assoc, B]
    generalize c * 256 ^ l.length = t at *
    omega
theorem B8 (l : List Nat) (hn : l.length = 8) (hl : ∀ r, r ∈ l → r < 256) : B l < 18446744073709551616 := by
  have := B_le 255 l (fun r hr => by have := hl r hr; omega)
  rw [hn] at this
  omega
theorem B4 (l : List Nat) (hn : l.length = 8) (hl : ∀ r, r ∈ l → r % 16 ≤ 4 ∧ r / 16 ≤ 4) : B l ≤ 4919131752989213764 := by
  have := B_le 68 l (fun r hr => by have := hl r hr; omega)
  rw [hn] at this
  omega
theorem m85 : B (List.replicate 8 85) = 6148914691236517205 := by decide +kernel
theorem m51 : B (List.replicate 8 51) = 3689348814741910323 := by decide +kernel
theorem m15 : B (List.replicate 8 15) = 1085102592571150095 := by decide +kernel
theorem pop_list (l : List Nat) (hn : l.length = 8) (hlt : ∀ r, r ∈ l → r < 256) : ∃ x1 x2, (B l / 2 &&& 6148914691236517205) + (B l &&& 6148914691236517205) = x1 ∧ x1 < 18446744073709551616 ∧ (x1 / 4 &&& 3689348814741910323) + (x1 &&& 3689348814741910323) = x2 ∧ x2 / 16 + x2 < 18446744073709551616 ∧ (x2 / 16 + x2) &&& 1085102592571150095 = B (((l.map s1).map s2).map s3) := by
  have h1 := step1 l hlt
  rw [hn, m85] at h1
  have hl1 : ∀ r, r ∈ l.map s1 → r < 256 := by
    intro r hr
    obtain ⟨q, hq, rfl⟩ := List.mem_map.1 hr
    exact (one_byte q (hlt q hq)).1
  have h2 := step2 _ hl1
  rw [List.length_map, hn, m51] at h2
  have hl2 : ∀ r, r ∈ (l.map s1).map s2 → r % 16 ≤ 4 ∧ r / 16 ≤ 4 := by
    intro r hr
    obtain ⟨q', hq', rfl⟩ := List.mem_map.1 hr
    obtain ⟨q, hq, rfl⟩ := List.mem_map.1 hq'
    exact ⟨(one_byte q (hlt q hq)).2.1, (one_byte q (hlt q hq)).2.2.1⟩
  have h3 := step3 _ hl2
  rw [List.length_map, List.length_map, hn, m15] at h3
  have b1 := B8 (l.map s1) (by rw [List.length_map, hn]) hl1
  have b2 := B4 ((l.map s1).map s2) (by rw [List.length_map, List.length_map, hn]) hl2
  exact ⟨B (l.map s1), B ((l.map s1).map s2), h1, b1, h2, by omega, h3⟩
theorem cb8 (f : Nat → Bool) (o : Nat) : cb f o 8 + cb f (o + 8) 8 + cb f (o + 16) 8 + cb f (o + 24) 8 + cb f (o + 32) 8 + cb f (o + 40) 8 + cb f (o + 48) 8 + cb f (o + 56) 8 = cb f o 64 := by
  have e : ∀ o n, cb f o (8 + n) = cb f o 8 + cb f (o + 8) n := fun o n => cb_add f o 8 n
  have z : ∀ o, cb f o 0 = 0 := fun o => by simp [cb]
  rw [show (64 : Nat) = 8 + (8 + (8 + (8 + (8 + (8 + (8 + (8 + 0))))))) from rfl]
  rw [e, e, e, e, e, e, e, e, z]
  generalize cb f = C
  simp only [Nat.add_assoc, Nat.reduceAdd]
  omega
/-- The number of bits by sums of fields. -/
theorem pop3 (f : Nat → Bool) (k : Nat) : ∃ x1 x2 x3, (wd f k / 2 &&& 6148914691236517205) + (wd f k &&& 6148914691236517205) = x1 ∧ x1 < 18446744073709551616 ∧ (x1 / 4 &&& 3689348814741910323) + (x1 &&& 3689348814741910323) = x2 ∧ x2 / 16 + x2 < 18446744073709551616 ∧ (x2 / 16 + x2) &&& 1085102592571150095 = x3 ∧
    ∃ p0 p1 p2 p3 p4 p5 p6 p7, x3 = p0 + 256 * (p1 + 256 * (p2 + 256 * (p3 + 256 * (p4 + 256 * (p5 + 256 * (p6 + 256 * p7)))))) ∧ p0 ≤ 8 ∧ p1 ≤ 8 ∧ p2 ≤ 8 ∧ p3 ≤ 8 ∧ p4 ≤ 8 ∧ p5 ≤ 8 ∧ p6 ≤ 8 ∧ p7 ≤ 8 ∧ p0 + p1 + p2 + p3 + p4 + p5 + p6 + p7 = cb f (64 * k) 64 := by
  obtain ⟨x1, x2, h1, h2, h3, h4, h5⟩ := pop_list (by8 f (64 * k)) rfl (by8_lt f (64 * k))
  have e0 : B (by8 f (64 * k)) = wd f k := by8_B f (64 * k)
  rw [e0] at h1
  have hc := cb8 f (64 * k)
  have hp : B ((((by8 f (64 * k)).map s1).map s2).map s3) = cb f (64 * k) 8 + 256 * (cb f (64 * k + 8) 8 + 256 * (cb f (64 * k + 16) 8 + 256 * (cb f (64 * k + 24) 8 + 256 * (cb f (64 * k + 32) 8 + 256 * (cb f (64 * k + 40) 8 + 256 * (cb f (64 * k + 48) 8 + 256 * cb f (64 * k + 56) 8)))))) := by
    have hb := byte_cb f
    simp only [by8, List.map_cons, List.map_nil, B, hb]
    omega
  have l8 : ∀ o, cb f o 8 ≤ 8 := fun o => cb_le f o 8
  generalize cb f = C at *
  exact ⟨x1, x2, _, h1, h2, h3, h4, h5, _, _, _, _, _, _, _, _, hp, l8 _, l8 _, l8 _, l8 _, l8 _, l8 _, l8 _, l8 _, hc⟩
theorem pop_end (p0 p1 p2 p3 p4 p5 p6 p7 x3 : Nat) (hx : x3 = p0 + 256 * (p1 + 256 * (p2 + 256 * (p3 + 256 * (p4 + 256 * (p5 + 256 * (p6 + 256 * p7))))))) (h0 : p0 ≤ 8) (h1 : p1 ≤ 8) (h2 : p2 ≤ 8) (h3 : p3 ≤ 8) (h4 : p4 ≤ 8) (h5 : p5 ≤ 8) (h6 : p6 ≤ 8) (h7 : p7 ≤ 8) :
    ∃ x4 x5 x6, x3 + x3 / 256 = x4 ∧ x4 < 18446744073709551616 ∧ x4 + x4 / 65536 = x5 ∧ x5 < 18446744073709551616 ∧ x5 + x5 / 4294967296 = x6 ∧ x6 < 9223372036854775808 ∧ x6 % 128 = p0 + p1 + p2 + p3 + p4 + p5 + p6 + p7 := by
  obtain ⟨z6, e6⟩ : ∃ z, z = p6 + 256 * p7 := ⟨_, rfl⟩
  obtain ⟨z5, e5⟩ : ∃ z, z = p5 + 256 * z6 := ⟨_, rfl⟩
  obtain ⟨z4, e4⟩ : ∃ z, z = p4 + 256 * z5 := ⟨_, rfl⟩
  obtain ⟨z3, e3⟩ : ∃ z, z = p3 + 256 * z4 := ⟨_, rfl⟩
  obtain ⟨z2, e2⟩ : ∃ z, z = p2 + 256 * z3 := ⟨_, rfl⟩
  obtain ⟨z1, e1⟩ : ∃ z, z = p1 + 256 * z2 := ⟨_, rfl⟩
  have b6 : z6 ≤ 2056 := by omega
  have b5 : z5 ≤ 526344 := by omega
  have b4 : z4 ≤ 134744072 := by omega
  have b3 : z3 ≤ 34494482440 := by omega
  have b2 : z2 ≤ 8830587504648 := by omega
  have b1 : z1 ≤ 2260630401189896 := by omega
  have hx' : x3 = p0 + 256 * z1 := by rw [hx, e1, e2, e3, e4, e5, e6]
  clear hx
  have b0 : x3 ≤ 578721382704613384 := by omega
  have q1 : x3 / 256 = z1 := by clear e1 e2 e3 e4 e5 e6; omega
  rw [q1]
  obtain ⟨x4, d4⟩ : ∃ z, x3 + z1 = z := ⟨_, rfl⟩
  have f4 : x4 = (p0 + p1 + 256 * (p1 + p2)) + 65536 * (z2 + z3) := by rw [← d4, hx', e1, e2]; clear e1 e2 e3 e4 e5 e6 b1 b2 b3 b4 b5 b6; omega
  have q2 : x4 / 65536 = z2 + z3 := by rw [f4]; clear f4 d4 hx' q1 e1 e2 e3 e4 e5 e6; omega
  obtain ⟨x5, d5⟩ : ∃ z, x4 + (z2 + z3) = z := ⟨_, rfl⟩
  have f5 : x5 = (p0 + p1 + p2 + p3 + 256 * (p1 + p2 + p3 + p4) + 65536 * (p2 + p3 + p4 + p5) + 16777216 * (p3 + p4 + p5 + p6)) + 4294967296 * (z4 + z5 + z6 + p7) := by
    rw [← d5, f4, e2, e3, e4, e5, e6]; clear f4 d4 d5 hx' q1 q2 e1 e2 e3 e4 e5 e6 b1 b2 b3 b4 b5 b6 b0 h0 h1 h2 h3 h4 h5 h6 h7; omega
  have q3 : x5 / 4294967296 = z4 + z5 + z6 + p7 := by rw [f5]; clear f5 d5 q2 f4 d4 hx' q1 e1 e2 e3 e4 e5 e6; omega
  refine ⟨x4, x5, x5 + (z4 + z5 + z6 + p7), d4, ?_, by rw [q2]; exact d5, ?_, by rw [q3], ?_, ?_⟩
  · clear f4 f5; omega
  · clear f4 f5 e1 e2 e3 e4 e5 e6; omega
  · clear f4 f5 e1 e2 e3 e4 e5 e6; omega
  · rw [f5, e4, e5, e6]; clear f5 d5 q2 q3 f4 d4 hx' q1 e1 e2 e3 e4 e5 e6 b1 b2 b3 b4 b5 b6 b0; omega
end Cls
end Go.Proofs.YtodjjajofiaehaaDoor
