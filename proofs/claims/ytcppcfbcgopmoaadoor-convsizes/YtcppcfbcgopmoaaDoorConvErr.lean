/- Contracts of conv.errorOf and of the document's own Check. -/
import Derived.Test.YtcppcfbcgopmoaaDoorConvSize
import Derived.Test.YtcppcfbcgopmoaaDoorCrtBits
namespace Go.Proofs.YtcppcfbcgopmoaaDoor
open Go.RowKit Res

theorem Lies.drewN {w : World} {ao : Option Addr} {n : Nat} {L : Nat → Int} (h : Lies w ao n L) (q : Nat) : Lies (w.drewN q) ao n L := h

set_option maxHeartbeats 1000000 in
theorem errorOf_le (ao bo : Option Addr) (n m ca cb : Nat) (h1 : 1 ≤ n) (hnm : n ≤ m) (hlong : ¬ 4097 < n + m) (X Y : Int) (hX0 : 0 ≤ X) (hY0 : 0 ≤ Y) (hX1 : X ≤ 18446744073709551615) (hY1 : Y ≤ 18446744073709551615) (w : World)
    (c1 : Hid (Calls Tryd.prog 13 #[.slice ao n ca] w fun e w' => e = .returned (.int .u64 X) ∧ w' = w)) (c2 : Hid (Calls Tryd.prog 13 #[.slice bo m cb] w fun e w' => e = .returned (.int .u64 Y) ∧ w' = w)) :
    Calls Tryd.prog 22 #[.slice ao n ca, .slice bo m cb] w fun e w' => e = .returned (.int .i64 (er n m X Y)) ∧ w' = w := by
  have hk : min n m = n := by omega
  obtain ⟨H, hH⟩ : ∃ H, H = X * Y / 18446744073709551616 := ⟨_, rfl⟩
  obtain ⟨l, hl⟩ : ∃ l, l = X * Y % 18446744073709551616 := ⟨_, rfl⟩
  obtain ⟨O, hO⟩ : ∃ O, O = l * (n : Int) / 18446744073709551616 := ⟨_, rfl⟩
  obtain ⟨p, hp⟩ : ∃ p, p = l * (n : Int) % 18446744073709551616 := ⟨_, rfl⟩
  have c3 : Hid _ := mul64_any X Y hX0 hY0 (by omega) (by omega) w
  rw [← hH, ← hl] at c3
  have hl0 : 0 ≤ l := by omega
  have hl1 : l < 18446744073709551616 := by omega
  have c4 : Hid _ := mul64_any l n hl0 (by omega) hl1 (by omega) w
  rw [← hO, ← hp] at c4
  have hiff := halves_big (P := X * Y) (k := (n : Int)) (Int.mul_nonneg hX0 hY0) (by omega)
  rw [← hH, ← hl, ← hO] at hiff
  have hlong' : (n : Int) + (m : Int) ≤ 4097 := by omega
  have hz : (n : Int) ≤ (m : Int) := by omega
  by_cases hbig : 18446744073709551616 ≤ X * Y * ((min n m : Nat) : Int)
  · rw [er_big hlong hbig]
    rw [hk] at hbig
    clear hH hl hO hp hk
    by_cases hH0 : H = 0
    · have hO0 : O ≠ 0 := fun e => hiff.1 ⟨hH0, e⟩ hbig
      clear hiff hbig
      subst hH0
      go_enter Tryd.func22, Tryd.ntmps22
      go_wp2_with fail
      refine Calls.mono (Hid.out c1) ?_; rintro e w' ⟨rfl, hw'⟩; subst w'
      go_wp2_with fail
      refine Calls.mono (Hid.out c2) ?_; rintro e w' ⟨rfl, hw'⟩; subst w'
      go_wp2_with fail
      refine Calls.mono (Hid.out c3) ?_; rintro e w' ⟨rfl, hw'⟩; subst w'
      go_wp2_with fail
      refine Calls.mono (Hid.out c4) ?_; rintro e w' ⟨rfl, hw'⟩; subst w'
      go_wp2_with fail
      go_ret
      exact ⟨rfl, rfl⟩
    · clear hiff hbig
      go_enter Tryd.func22, Tryd.ntmps22
      go_wp2_with fail
      refine Calls.mono (Hid.out c1) ?_; rintro e w' ⟨rfl, hw'⟩; subst w'
      go_wp2_with fail
      refine Calls.mono (Hid.out c2) ?_; rintro e w' ⟨rfl, hw'⟩; subst w'
      go_wp2_with fail
      refine Calls.mono (Hid.out c3) ?_; rintro e w' ⟨rfl, hw'⟩; subst w'
      go_wp2_with fail
      refine Calls.mono (Hid.out c4) ?_; rintro e w' ⟨rfl, hw'⟩; subst w'
      go_wp2_with fail
      go_ret
      exact ⟨rfl, rfl⟩
  · rw [er_ok hlong hbig]
    rw [hk] at hbig
    obtain ⟨hH0, hO0⟩ := hiff.2 hbig
    clear hH hl hO hp hk
    clear hiff hbig
    subst hH0 hO0
    go_enter Tryd.func22, Tryd.ntmps22
    go_wp2_with fail
    refine Calls.mono (Hid.out c1) ?_; rintro e w' ⟨rfl, hw'⟩; subst w'
    go_wp2_with fail
    refine Calls.mono (Hid.out c2) ?_; rintro e w' ⟨rfl, hw'⟩; subst w'
    go_wp2_with fail
    refine Calls.mono (Hid.out c3) ?_; rintro e w' ⟨rfl, hw'⟩; subst w'
    go_wp2_with fail
    refine Calls.mono (Hid.out c4) ?_; rintro e w' ⟨rfl, hw'⟩; subst w'
    go_wp2_with fail
    go_ret
    exact ⟨rfl, rfl⟩

set_option maxHeartbeats 1000000 in
theorem errorOf_gt (ao bo : Option Addr) (n m ca cb : Nat) (h1 : 1 ≤ m) (hnm : m < n) (hlong : ¬ 4097 < n + m) (X Y : Int) (hX0 : 0 ≤ X) (hY0 : 0 ≤ Y) (hX1 : X ≤ 18446744073709551615) (hY1 : Y ≤ 18446744073709551615) (w : World)
    (c1 : Hid (Calls Tryd.prog 13 #[.slice ao n ca] w fun e w' => e = .returned (.int .u64 X) ∧ w' = w)) (c2 : Hid (Calls Tryd.prog 13 #[.slice bo m cb] w fun e w' => e = .returned (.int .u64 Y) ∧ w' = w)) :
    Calls Tryd.prog 22 #[.slice ao n ca, .slice bo m cb] w fun e w' => e = .returned (.int .i64 (er n m X Y)) ∧ w' = w := by
  have hk : min n m = m := by omega
  obtain ⟨H, hH⟩ : ∃ H, H = X * Y / 18446744073709551616 := ⟨_, rfl⟩
  obtain ⟨l, hl⟩ : ∃ l, l = X * Y % 18446744073709551616 := ⟨_, rfl⟩
  obtain ⟨O, hO⟩ : ∃ O, O = l * (m : Int) / 18446744073709551616 := ⟨_, rfl⟩
  obtain ⟨p, hp⟩ : ∃ p, p = l * (m : Int) % 18446744073709551616 := ⟨_, rfl⟩
  have c3 : Hid _ := mul64_any X Y hX0 hY0 (by omega) (by omega) w
  rw [← hH, ← hl] at c3
  have hl0 : 0 ≤ l := by omega
  have hl1 : l < 18446744073709551616 := by omega
  have c4 : Hid _ := mul64_any l m hl0 (by omega) hl1 (by omega) w
  rw [← hO, ← hp] at c4
  have hiff := halves_big (P := X * Y) (k := (m : Int)) (Int.mul_nonneg hX0 hY0) (by omega)
  rw [← hH, ← hl, ← hO] at hiff
  have hlong' : (n : Int) + (m : Int) ≤ 4097 := by omega
  have hz : (m : Int) < (n : Int) := by omega
  by_cases hbig : 18446744073709551616 ≤ X * Y * ((min n m : Nat) : Int)
  · rw [er_big hlong hbig]
    rw [hk] at hbig
    clear hH hl hO hp hk
    by_cases hH0 : H = 0
    · have hO0 : O ≠ 0 := fun e => hiff.1 ⟨hH0, e⟩ hbig
      clear hiff hbig
      subst hH0
      go_enter Tryd.func22, Tryd.ntmps22
      go_wp2_with fail
      refine Calls.mono (Hid.out c1) ?_; rintro e w' ⟨rfl, hw'⟩; subst w'
      go_wp2_with fail
      refine Calls.mono (Hid.out c2) ?_; rintro e w' ⟨rfl, hw'⟩; subst w'
      go_wp2_with fail
      refine Calls.mono (Hid.out c3) ?_; rintro e w' ⟨rfl, hw'⟩; subst w'
      go_wp2_with fail
      refine Calls.mono (Hid.out c4) ?_; rintro e w' ⟨rfl, hw'⟩; subst w'
      go_wp2_with fail
      go_ret
      exact ⟨rfl, rfl⟩
    · clear hiff hbig
      go_enter Tryd.func22, Tryd.ntmps22
      go_wp2_with fail
      refine Calls.mono (Hid.out c1) ?_; rintro e w' ⟨rfl, hw'⟩; subst w'
      go_wp2_with fail
      refine Calls.mono (Hid.out c2) ?_; rintro e w' ⟨rfl, hw'⟩; subst w'
      go_wp2_with fail
      refine Calls.mono (Hid.out c3) ?_; rintro e w' ⟨rfl, hw'⟩; subst w'
      go_wp2_with fail
      refine Calls.mono (Hid.out c4) ?_; rintro e w' ⟨rfl, hw'⟩; subst w'
      go_wp2_with fail
      go_ret
      exact ⟨rfl, rfl⟩
  · rw [er_ok hlong hbig]
    rw [hk] at hbig
    obtain ⟨hH0, hO0⟩ := hiff.2 hbig
    clear hH hl hO hp hk
    clear hiff hbig
    subst hH0 hO0
    go_enter Tryd.func22, Tryd.ntmps22
    go_wp2_with fail
    refine Calls.mono (Hid.out c1) ?_; rintro e w' ⟨rfl, hw'⟩; subst w'
    go_wp2_with fail
    refine Calls.mono (Hid.out c2) ?_; rintro e w' ⟨rfl, hw'⟩; subst w'
    go_wp2_with fail
    refine Calls.mono (Hid.out c3) ?_; rintro e w' ⟨rfl, hw'⟩; subst w'
    go_wp2_with fail
    refine Calls.mono (Hid.out c4) ?_; rintro e w' ⟨rfl, hw'⟩; subst w'
    go_wp2_with fail
    go_ret
    exact ⟨rfl, rfl⟩

set_option maxHeartbeats 400000 in
theorem errorOf_any (ao bo : Option Addr) (n m ca cb : Nat) (h1 : 1 ≤ n) (h2 : 1 ≤ m) (hn : n ≤ 1152921504606846976) (hm : m ≤ 1152921504606846976) (A B : Nat → Int) (hA : ∀ t, A t ≤ 18446744073709551615) (hB : ∀ t, B t ≤ 18446744073709551615) (w : World) (la : Lies w ao n A) (lb : Lies w bo m B) :
    Calls Tryd.prog 22 #[.slice ao n ca, .slice bo m cb] w fun e w' => e = .returned (.int .i64 (er n m (gr n A) (gr m B))) ∧ w' = w := by
  by_cases hlong : 4097 < n + m
  · rw [er_long hlong]
    clear la lb
    have hi : (4097 : Int) < (n : Int) + (m : Int) := by omega
    go_enter Tryd.func22, Tryd.ntmps22
    go_wp2_with fail
    go_ret
    exact ⟨rfl, rfl⟩
  by_cases hnm : n ≤ m
  · exact errorOf_le ao bo n m ca cb h1 hnm hlong _ _ (gr_nonneg _ _) (gr_nonneg _ _) (gr_hi (by omega) hA n) (gr_hi (by omega) hB m) w (greatest_any ao n ca hn A w la) (greatest_any bo m cb hm B w lb)
  · exact errorOf_gt ao bo n m ca cb h2 (by omega) hlong _ _ (gr_nonneg _ _) (gr_nonneg _ _) (gr_hi (by omega) hA n) (gr_hi (by omega) hB m) w (greatest_any ao n ca hn A w la) (greatest_any bo m cb hm B w lb)
end Go.Proofs.YtcppcfbcgopmoaaDoor
