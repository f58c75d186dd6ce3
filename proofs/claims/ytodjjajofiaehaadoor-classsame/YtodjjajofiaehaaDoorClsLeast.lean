/- Contracts of math/bits.TrailingZeros64, class.least, class.Single. -/
import Derived.Test.YtodjjajofiaehaaDoorClsSize
import Derived.Test.YtodjjajofiaehaaDoorClsEq
import Derived.Lib.TrailingZeros
import Derived.Laws.Bits64b
import Derived.Deep.RegionHeld3
namespace Go.Proofs.YtodjjajofiaehaaDoor
open Go.RowKit
namespace Cls

/-- The library's table, as its text lays it. -/
def TabB (w : World) : Prop := ∀ j, j < 64 → w.cell? ⟨0, j, none⟩ = some (.int .u8 ((Lib.deBruijn64tab.getD j 0 : Nat) : Int))
theorem tabB_lt {w : World} (h : TabB w) : 0 < w.heap.size := World.block_lt_of_cell? w _ (h 0 (by omega))
theorem TabB.below {B : Nat} {w w' : World} (h : TabB w) (hb : Below B w w') (hB : 0 < B) : TabB w' := fun j hj => (hb.cell (p := ⟨0, j, none⟩) hB).trans (h j hj)
theorem TabB.grow {w w' : World} (h : TabB w) (hb : Below w.heap.size w w') : TabB w' := h.below hb (tabB_lt h)
theorem tz_key (x a : Nat) (hx : x < 18446744073709551616) (hx0 : x ≠ 0) (hlow : x &&& (18446744073709551616 - x) = a) :
    IntKind.u64.wrap (bits BinOp.and IntKind.u64 (x : Int) (IntKind.u64.wrap (-(x : Int))) * 285870213051353865) / 288230376151711744 = ((a * 285870213051353865 % 18446744073709551616 / 288230376151711744 : Nat) : Int) := by
  have e1 : IntKind.u64.wrap (-(x : Int)) = ((18446744073709551616 - x : Nat) : Int) := by rw [IntKind.wrap_u64]; omega
  rw [e1, bits_and_u64_nat x _ hx (by omega), hlow, IntKind.wrap_u64]
  omega

set_option maxHeartbeats 1000000 in
theorem tz_core (x k idx : Nat) (w : World) (hx0 : ((x : Int) == 0) = false)
    (key : IntKind.u64.wrap (bits BinOp.and IntKind.u64 (x : Int) (IntKind.u64.wrap (-(x : Int))) * 285870213051353865) / 288230376151711744 = (idx : Int))
    (hi : idx < 64) (hk : k < 64) (hcell : w.cell? ⟨0, idx, none⟩ = some (.int .u8 k)) :
    Calls Tryd.prog 33 #[.int .u64 x] w fun e w' => e = .returned (.int .i64 k) ∧ w' = w := by
  go_enter Tryd.func33, Tryd.ntmps33
  go_wp2_with (simp only [key])
  go_ret
  exact ⟨rfl, rfl⟩
theorem tz_any (x : Nat) (hx : x < 18446744073709551616) (hx0 : x ≠ 0) (w : World) (hT : TabB w) : ∃ c m, c < 64 ∧ x = 2 ^ c * (2 * m + 1) ∧
    Calls Tryd.prog 33 #[.int .u64 x] w fun e w' => e = .returned (.int .i64 ((c : Nat) : Int)) ∧ w' = w := by
  obtain ⟨hlow, hk⟩ := Lib.lowest_bit 64 x hx0 hx
  obtain ⟨hi, htab⟩ := Lib.deBruijn64_at _ hk
  have hcell := hT _ hi
  rw [htab] at hcell
  obtain ⟨m, hm, hc⟩ := Lib.ctzFrom_spec 64 x (by omega) hx
  have e : Lib.ctz 64 x = Lib.ctzFrom 64 x := by unfold Lib.ctz; rw [if_neg hx0]
  rw [e] at hlow hk hi htab hcell
  exact ⟨Lib.ctzFrom 64 x, m, hc, hm, tz_core x _ _ w (by simp; omega) (tz_key x _ hx hx0 hlow) hi hk hcell⟩

/-- b is the least of f, 0 if there is none. -/
def Lst (f : Nat → Bool) (b : Nat) : Prop := ((∀ x, x < 256 → f x = false) ∧ b = 0) ∨ (f b = true ∧ ∀ x, x < b → f x = false)
theorem zero_word {f : Nat → Bool} {k : Nat} (h : wd f k = 0) {i : Nat} (hi : i < 64) : f (64 * k + i) = false := by
  have := wd_bit f k i
  rw [h] at this
  simpa [hi] using this.symm
theorem odd_word {f : Nat → Bool} {k c m : Nat} (hc : c < 64) (h : wd f k = 2 ^ c * (2 * m + 1)) : f (64 * k + c) = true ∧ ∀ i, i < c → f (64 * k + i) = false := by
  constructor
  · have := has_at f k c hc
    rw [h, Nat.mul_div_cancel_left _ (Nat.two_pow_pos c)] at this
    cases e : f (64 * k + c) with
    | true => rfl
    | false => rw [e] at this; simp at this
  · intro i hi
    have := has_at f k i (by omega)
    rw [h, show c = i + ((c - i - 1) + 1) by omega, Nat.pow_add, Nat.pow_succ, Nat.mul_assoc, Nat.mul_div_cancel_left _ (Nat.two_pow_pos i), show 2 ^ (c - i - 1) * 2 * (2 * m + 1) = 2 * (2 ^ (c - i - 1) * (2 * m + 1)) by rw [Nat.mul_comm (2 ^ (c - i - 1)) 2, Nat.mul_assoc], Nat.mul_mod_right] at this
    cases e : f (64 * k + i) with
    | false => rfl
    | true => rw [e] at this; simp at this

set_option maxHeartbeats 1000000 in
theorem least_any (f : Nat → Bool) (w : World) (hT : TabB w) :
    Calls Tryd.prog 31 #[.agg #[.int .u64 ((wd (f) 0 : Nat) : Int), .int .u64 ((wd (f) 1 : Nat) : Int), .int .u64 ((wd (f) 2 : Nat) : Int), .int .u64 ((wd (f) 3 : Nat) : Int)]] w fun e w' => (∃ b : Nat, b < 256 ∧ Lst f b ∧ e = .returned (.int .u8 (b : Int))) ∧ Below w.heap.size w w' := by
  obtain ⟨w1, b1⟩ := box w f
  have E1 : Hid _ := b1.eq
  have B1 : Hid (Below w.heap.size w w1) := b1.bel
  have T1 : Hid (TabB w1) := hT.grow b1.bel
  clear b1 hT
  go_enter Tryd.func31, Tryd.ntmps31
  go_wp2_with fail
  rw [← E1.out]
  clear E1
  go_loopw [6] (fun vk wr => wr = w1 ∧ ∃ k : Nat, k ≤ 4 ∧ vk = .int .i64 k ∧ ∀ x, x < 64 * k → f x = false) (fun vk _ => 4 - (intOf vk).toNat)
  case atStart => exact ⟨rfl, 0, Nat.zero_le _, rfl, fun x hx => by omega⟩
  case round =>
    obtain ⟨rfl, k, hk, rfl, hz⟩ := hrel
    have HZ : Hid _ := hz
    clear hz
    by_cases hk4 : k < 4
    · have hidx := idx4 (wd f) k hk4
      by_cases h0 : wd f k = 0
      · have HZ' : Hid (∀ x, x < 64 * (k + 1) → f x = false) := fun x hx => by
          by_cases hx2 : x < 64 * k
          · exact HZ.out x hx2
          · have := zero_word h0 (i := x - 64 * k) (by omega)
            rwa [show 64 * k + (x - 64 * k) = x by omega] at this
        rw [h0] at hidx
        go_wp2_with fail
        go_roundw
        case rel => exact ⟨trivial, k + 1, by omega, by go_num, HZ'.out⟩
        case measure => simp [intOf]; omega
      · obtain ⟨c, m, hc, hm, c1⟩ := tz_any (wd f k) (wd_lt f k) h0 wr T1.out
        obtain ⟨hf1, hf2⟩ := odd_word hc hm
        have C1 : Hid _ := c1
        have hne : ¬ ((wd f k : Nat) : Int) = 0 := by omega
        have hL : Hid (Lst f (64 * k + c)) := Or.inr ⟨hf1, fun x hx => by
          by_cases hx2 : x < 64 * k
          · exact HZ.out x hx2
          · have := hf2 (x - 64 * k) (by omega)
            rwa [show 64 * k + (x - 64 * k) = x by omega] at this⟩
        have hkI : (k : Int) < 4 := by omega
        have hcI : (c : Int) < 64 := by omega
        clear c1 hf1 hf2 hm h0
        go_wp2_with fail
        refine Calls.mono (Hid.out C1) ?_; rintro e w' ⟨rfl, hw'⟩; subst w'
        go_wp2_with fail
        go_ret
        exact ⟨⟨64 * k + c, by omega, hL.out, by go_num⟩, B1.out⟩
    · obtain rfl : k = 4 := by omega
      go_wp2_with fail
      go_ret
      exact ⟨⟨0, by omega, Or.inl ⟨fun x hx => HZ.out x (by omega), rfl⟩, rfl⟩, B1.out⟩

theorem with0_any (b : Nat) (hb : b < 256) (w : World) :
    Calls Tryd.prog 28 #[.agg #[.int .u64 0, .int .u64 0, .int .u64 0, .int .u64 0], .int .u8 b] w fun e w' => e = .returned (.agg #[.int .u64 ((wd (fun x => x == b) 0 : Nat) : Int), .int .u64 ((wd (fun x => x == b) 1 : Nat) : Int), .int .u64 ((wd (fun x => x == b) 2 : Nat) : Int), .int .u64 ((wd (fun x => x == b) 3 : Nat) : Int)]) ∧ Below w.heap.size w w' := by
  have h := with_any (fun _ => false) b hb w
  have e : ins (fun _ => false) b = fun x => x == b := by funext x; simp [ins]
  have z : ∀ k, wd (fun _ => false) k = 0 := wd_none
  rw [e] at h
  simp only [z] at h
  exact h
/-- The one byte of f, if there is one. -/
def Sgl (f : Nat → Bool) (b : Nat) (t : Bool) : Prop := (t = true ∧ b < 256 ∧ ∀ x, x < 256 → f x = (x == b)) ∨ (t = false ∧ b = 0 ∧ ¬ ∃ c, c < 256 ∧ ∀ x, x < 256 → f x = (x == c))
theorem Sgl.one {f : Nat → Bool} {b c : Nat} {t u : Bool} (h : Sgl f b t) (k : Sgl f c u) : b = c ∧ t = u := by
  rcases h with ⟨rfl, h1, h2⟩ | ⟨rfl, rfl, h2⟩ <;> rcases k with ⟨rfl, k1, k2⟩ | ⟨rfl, rfl, k2⟩
  · have := h2 c k1
    rw [k2 c k1] at this
    simp at this
    exact ⟨this.symm, rfl⟩
  · exact absurd ⟨b, h1, h2⟩ k2
  · exact absurd ⟨c, k1, k2⟩ h2
  · exact ⟨rfl, rfl⟩
theorem Lst.single {f : Nat → Bool} {b c : Nat} (h : Lst f b) (hc : c < 256) (k : ∀ x, x < 256 → f x = (x == c)) : b = c := by
  rcases h with ⟨h1, rfl⟩ | ⟨h1, h2⟩
  · have := h1 c hc
    rw [k c hc] at this
    simp at this
  · have := k c hc
    rcases Nat.lt_trichotomy b c with e | e | e
    · have := k b (by omega)
      rw [h1] at this
      simp at this
      exact this
    · exact e
    · have h3 := h2 c e
      rw [h3] at this
      simp at this

set_option maxHeartbeats 1000000 in
theorem single_any (f : Nat → Bool) (w : World) (hT : TabB w) :
    Calls Tryd.prog 20 #[.agg #[.int .u64 ((wd (f) 0 : Nat) : Int), .int .u64 ((wd (f) 1 : Nat) : Int), .int .u64 ((wd (f) 2 : Nat) : Int), .int .u64 ((wd (f) 3 : Nat) : Int)]] w fun e w' => (∃ (b : Nat) (t : Bool), Sgl f b t ∧ b < 256 ∧ e = .returned (.tuple #[.int .u8 (b : Int), .bool t])) ∧ Below w.heap.size w w' := by
  obtain ⟨w1, b1⟩ := box w f
  have E1 : Hid _ := b1.eq
  have B1 : Hid (Below w.heap.size w w1) := b1.bel
  have F1 : Hid (Fam w1 w.heap.size 0 4 (wi f)) := b1.fam
  have s1 : w.heap.size < w1.heap.size := by have := b1.size; omega
  have c1 : Hid _ := least_any f w1 (hT.grow b1.bel)
  clear b1 hT
  go_enter Tryd.func20, Tryd.ntmps20
  go_wp2_with fail
  rw [← E1.out]
  clear E1
  refine Calls.mono (Hid.out c1) ?_; rintro e w2 ⟨⟨b, hb, hL, rfl⟩, b2⟩
  have B2 : Hid (Below w.heap.size w w2) := B1.out.trans (b2.mono B1.out.size)
  have F2 : Hid (Fam w2 w.heap.size 0 4 (wi f)) := F1.out.below b2 s1
  have s2 : w.heap.size < w2.heap.size := Nat.lt_of_lt_of_le s1 b2.size
  have HL : Hid (Lst f b) := hL
  obtain ⟨a0, a1, a2, a3⟩ := c4 F2.out
  clear b2 F1 B1 c1 hL
  go_wp2_with fail
  go_region_held3 (fun w' => w'.cell? ⟨w.heap.size, 0, none⟩ = some (.int .u64 ((wd f 0 : Nat) : Int)) ∧ w'.cell? ⟨w.heap.size, 1, none⟩ = some (.int .u64 ((wd f 1 : Nat) : Int)) ∧ w'.cell? ⟨w.heap.size, 2, none⟩ = some (.int .u64 ((wd f 2 : Nat) : Int)) ∧ w'.cell? ⟨w.heap.size, 3, none⟩ = some (.int .u64 ((wd f 3 : Nat) : Int))) (go_keep)
    (first | (go_at_call 28; refine (with0_any b hb _).mono ?_; rintro e w3 ⟨rfl, b3⟩; have b3' : Below w2.heap.size w2 w3 := undrew b3; have B3 : Hid (Below w.heap.size w w3) := B2.out.trans (b3'.mono B2.out.size); obtain ⟨m0, m1, m2, m3⟩ := c4 (Fam.below (show Fam w2 w.heap.size 0 4 (wi f) from F2.out) b3' s2); clear b3 b3'))
  by_cases hs : sm f (fun x => x == b) = true
  · have hS : Hid (Sgl f b true) := Or.inl ⟨rfl, hb, (sm_iff _ _).1 hs⟩
    simp only [hs, Bool.not_true]
    go_wp2_with fail
    go_ret2
    exact ⟨⟨b, true, hS.out, hb, rfl⟩, B3.out⟩
  · have hs' : sm f (fun x => x == b) = false := by simpa using hs
    have hS : Hid (Sgl f 0 false) := Or.inr ⟨rfl, rfl, fun ⟨c, hc, hk⟩ => hs ((sm_iff _ _).2 (by rw [Lst.single HL.out hc hk]; exact hk))⟩
    clear hs
    simp only [hs', Bool.not_false]
    go_wp2_with fail
    go_ret2
    exact ⟨⟨0, false, hS.out, by omega, rfl⟩, B3.out⟩
end Cls
end Go.Proofs.YtodjjajofiaehaaDoor
