/- Contracts of naive.room, naive.misses, naive.At. -/
import Derived.Test.YtpogipingefkaaaNvMath
import Derived.Test.YtpogipingefkaaaLfA
namespace Go.Proofs.Ytpogipingefkaaa
open Go.RowKit
namespace Cls

theorem rgt_len {P : Nat → Nat → Bool} {n : Nat} {K : Int} (h : rgt P n K = true) : 1 ≤ n ∧ n ≤ 64 ∧ 0 ≤ K ∧ K ≤ 64 := by
  by_cases hh : 1 ≤ n ∧ n ≤ 64 ∧ 0 ≤ K ∧ K ≤ 64
  · exact hh
  · rw [rgt_no hh] at h; cases h

set_option maxHeartbeats 1000000 in
theorem room_any (P : Nat → Nat → Bool) (n cap : Nat) (ao : Option Addr) (K : Int) (s : ByteArray) (hs : s.size ≤ 1000000) (w : World) (hl : Lf w ao n P) :
    Calls Try.prog 25 #[.agg #[.slice ao n cap, .int .i64 K], .string s] w fun e w' => e = .returned (.int .i64 ((stn P n K s.size : Nat) : Int)) ∧ Below w.heap.size w w' := by
  obtain ⟨w1, b1⟩ := lbox w (.slice ao n cap) (.int .i64 K)
  have E1 : Hid _ := b1.eq
  have B1 : Hid (Below w.heap.size w w1) := b1.bel
  have s1 : w.heap.size < w1.heap.size := by have := b1.size; omega
  have HC : Hid (w1.cell? ⟨w.heap.size, 0, none⟩ = some (.slice ao n cap) ∧ w1.cell? ⟨w.heap.size, 1, none⟩ = some (.int .i64 K)) := ⟨b1.c0, b1.c1⟩
  have c0 := HC.out.1
  have c1 := HC.out.2
  have cc : Hid _ := right_any P n cap ao K w1 (hl.grow b1.bel)
  have hn := hl.small
  clear b1 hl
  cases hr : rgt P n K with
  | false =>
    have e : stn P n K s.size = 0 := stn_no (fun h => by rw [hr] at h; cases h.1)
    rw [e]
    rw [hr] at cc
    go_enter Try.func25, Try.ntmps25
    go_wp2_with (first | rw [← E1.out])
    refine Calls.mono (Hid.out cc) ?_; rintro e w2 ⟨rfl, b2⟩
    have B2 : Hid (Below w.heap.size w w2) := B1.out.trans (b2.mono B1.out.size)
    clear b2
    go_wp2_with fail
    go_ret
    exact ⟨rfl, B2.out⟩
  | true =>
    obtain ⟨h1, h64, _, _⟩ := rgt_len hr
    have e : ((stn P n K s.size : Nat) : Int) = if 0 < (s.size : Int) - n + 1 then (s.size : Int) - n + 1 else 0 := by
      by_cases hm : n ≤ s.size
      · rw [stn_yes hr hm, if_pos (by omega)]; omega
      · rw [stn_no (fun h => hm h.2), if_neg (by omega)]; rfl
    have HE : Hid _ := e
    clear e
    rw [hr] at cc
    by_cases hm : n ≤ s.size
    · have hq : 0 < (s.size : Int) - n + 1 := by omega
      have HX : Hid (((stn P n K s.size : Nat) : Int) = (s.size : Int) - n + 1) := by show _ = _; rw [HE.out, if_pos hq]
      have hq2 : 0 ≤ (s.size : Int) - n + 1 := by omega
      go_enter Try.func25, Try.ntmps25
      go_wp2_with (first | rw [← E1.out])
      refine Calls.mono (Hid.out cc) ?_; rintro e w2 ⟨rfl, b2⟩
      have B2 : Hid (Below w.heap.size w w2) := B1.out.trans (b2.mono B1.out.size)
      have c0' := (two_below HC.out b2 s1).1
      clear b2
      go_wp2_with fail
      go_ret
      exact ⟨by rw [HX.out]; rfl, B2.out⟩
    · have hq : (s.size : Int) - n + 1 ≤ 0 := by omega
      have hq3 : ¬ 0 < (s.size : Int) - n + 1 := by omega
      have HX : Hid (((stn P n K s.size : Nat) : Int) = 0) := by show _ = _; rw [HE.out, if_neg hq3]
      go_enter Try.func25, Try.ntmps25
      go_wp2_with (first | rw [← E1.out])
      refine Calls.mono (Hid.out cc) ?_; rintro e w2 ⟨rfl, b2⟩
      have B2 : Hid (Below w.heap.size w w2) := B1.out.trans (b2.mono B1.out.size)
      have c0' := (two_below HC.out b2 s1).1
      clear b2
      go_wp2_with fail
      go_ret
      exact ⟨by rw [HX.out]; rfl, B2.out⟩

/-- A text's byte. -/
theorem idx_str (s : ByteArray) (q : Nat) (hq : q < s.size) (w : World) : (Instr.index 9 (.string s) (.int .i64 (q : Int))).run Try.prog w = .ok (.int .u8 ((byt s q : Nat) : Int)) w := by
  rw [byt_at s q hq]
  have h := run_index_string (P := Try.prog) w 9 s .i64 (q : Int) Try.underlying9
  rw [h]
  have h2 : (q : Int).toNat = q := by omega
  simp [hq]

set_option maxHeartbeats 1000000 in
theorem misses_any (P : Nat → Nat → Bool) (n cap : Nat) (ao : Option Addr) (K : Int) (s : ByteArray) (i : Nat) (hs : s.size ≤ 1000000) (hi : i + n ≤ s.size) (w : World) (hl : Lf w ao n P) :
    Calls Try.prog 26 #[.agg #[.slice ao n cap, .int .i64 K], .string s, .int .i64 i] w fun e w' => e = .returned (.int .i64 ((mis P s i n : Nat) : Int)) ∧ Below w.heap.size w w' := by
  obtain ⟨w1, b1⟩ := lbox w (.slice ao n cap) (.int .i64 K)
  have E1 : Hid _ := b1.eq
  have B1 : Hid (Below w.heap.size w w1) := b1.bel
  have c0 := b1.c0
  have HL : Hid (Lf w1 ao n P) := hl.grow b1.bel
  have hn := hl.small
  have hm0 : Hid _ := mis_zero P s i
  clear b1 hl
  go_enter Try.func26, Try.ntmps26
  go_wp2_with (first | rw [← E1.out])
  clear E1 c0
  go_loopw [7, 13] (fun vn vk wr => Below w1.heap.size w1 wr ∧ ∃ k : Nat, k ≤ n ∧ vk = .int .i64 k ∧ vn = .int .i64 ((mis P s i k : Nat) : Int)) (fun _ vk _ => n - (intOf vk).toNat)
  case atStart => exact ⟨Below.refl _ _, 0, Nat.zero_le _, rfl, by rw [hm0.out]; rfl⟩
  case round =>
    obtain ⟨hbel, k, hk, rfl, rfl⟩ := hrel
    have HB : Hid _ := hbel
    have HLr : Hid (Lf wr ao n P) := HL.out.grow hbel
    clear hbel
    by_cases hkn : k < n
    · obtain ⟨b, o, rfl, hb, hC⟩ := HLr.out.lies (by omega)
      obtain ⟨c0, c1, c2, c3⟩ := hC.four hkn
      have hkI : (k : Int) < (n : Int) := by omega
      obtain ⟨w2, b2⟩ := box wr (P k)
      have E2 : Hid _ := b2.eq
      have HB2 : Hid (Below w1.heap.size w1 w2) := HB.out.trans (b2.bel.mono HB.out.size)
      have F2 : Hid (Fam w2 wr.heap.size 0 4 (wi (P k))) := b2.fam
      have s2 : wr.heap.size < w2.heap.size := by have := b2.size; omega
      obtain ⟨a0, a1, a2, a3⟩ := c4 b2.fam
      have hbt := byt_lt s (i + k)
      have hik : i + k < s.size := by omega
      obtain ⟨q, hq⟩ : ∃ q, i + k = q := ⟨_, rfl⟩
      have hqI : (i : Int) + (k : Int) = (q : Int) := by omega
      rw [hq] at hik hbt
      have hwq : IntKind.i64.wrap (q : Int) = (q : Int) := by rw [IntKind.wrap_i64]; omega
      have hwr : IntKind.i64.wrap ((i : Int) + (k : Int)) = (q : Int) := by rw [hqI]; exact hwq
      have hi1 : (q : Int) < (s.size : Int) := by omega
      have hidx := idx_str s q hik
      have hcc : Hid _ := fun v => has_any (P k) (byt s q) hbt v
      have hsu : Hid _ := mis_succ P s i k
      rw [hq] at hsu
      have hle := mis_le P s i k
      clear hC b2
      go_wp2_with (first | rw [← E2.out])
      clear E2
      go_region_held3 (fun w' => w'.cell? ⟨wr.heap.size, 0, none⟩ = some (.int .u64 ((wd (P k) 0 : Nat) : Int)) ∧ w'.cell? ⟨wr.heap.size, 1, none⟩ = some (.int .u64 ((wd (P k) 1 : Nat) : Int)) ∧ w'.cell? ⟨wr.heap.size, 2, none⟩ = some (.int .u64 ((wd (P k) 2 : Nat) : Int)) ∧ w'.cell? ⟨wr.heap.size, 3, none⟩ = some (.int .u64 ((wd (P k) 3 : Nat) : Int))) (go_keep)
        (first | (go_at_call 35; refine Calls.mono (hcc.out _) ?_; rintro e w3 ⟨rfl, b3⟩; have b3' : Below w2.heap.size w2 w3 := undrew b3; have HB3 : Hid (Below w1.heap.size w1 w3) := HB2.out.trans (b3'.mono HB2.out.size); obtain ⟨m0, m1, m2, m3⟩ := c4 (Fam.below (show Fam w2 wr.heap.size 0 4 (wi (P k)) from F2.out) b3' s2); clear b3 b3'))
      cases hp : P k (byt s q) with
      | false =>
        rw [hp] at hsu
        go_wp2_with fail
        go_roundw
        case rel => exact ⟨HB3.out, k + 1, by omega, by go_num, by rw [hsu.out]; go_num⟩
        case measure => simp [intOf]; omega
      | true =>
        rw [hp] at hsu
        go_wp2_with fail
        go_roundw
        case rel => exact ⟨HB3.out, k + 1, by omega, by go_num, by rw [hsu.out]; simp⟩
        case measure => simp [intOf]; omega
    · obtain rfl : k = n := by omega
      have B2 : Hid (Below w.heap.size w wr) := B1.out.trans (HB.out.mono B1.out.size)
      go_wp2_with fail
      go_ret
      exact ⟨rfl, B2.out⟩

end Cls
end Go.Proofs.Ytpogipingefkaaa
