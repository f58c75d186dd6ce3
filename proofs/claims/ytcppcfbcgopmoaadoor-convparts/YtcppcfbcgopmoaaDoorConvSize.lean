/- Contracts of conv.Size, conv.Greatest and of the document's own. -/
import Derived.Test.YtcppcfbcgopmoaaDoorConvDef
import Derived.Test.YtcppcfbcgopmoaaDoorCrtRow
import Derived.Test.YtcppcfbcgopmoaaDoorNttLog
import Derived.Test.YtcppcfbcgopmoaaDoorNttFill
import Derived.Test.YtcppcfbcgopmoaaDoorMem
namespace Go.Proofs.YtcppcfbcgopmoaaDoor
open Go.RowKit Res

set_option maxHeartbeats 400000 in
theorem size_no (n : Int) (hn : n < 1 ∨ 4096 < n) (w : World) : Calls Tryd.prog 11 #[.int .i64 n] w fun e w' => e = .returned (.tuple #[.int .i64 0, .bool false]) ∧ w' = w := by
  rcases hn with hn | hn
  · have hd : decide (n < 1) = true := decide_eq_true hn
    go_enter Tryd.func11, Tryd.ntmps11
    go_wp2_with fail
    go_ret2
    exact ⟨rfl, rfl⟩
  · have hd : decide (n < 1) = false := decide_eq_false (by omega)
    go_enter Tryd.func11, Tryd.ntmps11
    go_wp2_with fail
    go_ret2
    exact ⟨rfl, rfl⟩

set_option maxHeartbeats 400000 in
theorem refSize_no (n : Int) (hn : n < 1 ∨ 4096 < n) (w : World) : Calls Tryd.prog 12 #[.int .i64 n] w fun e w' => e = .returned (.tuple #[.int .i64 0, .bool false]) ∧ w' = w := by
  rcases hn with hn | hn
  · have hd : decide (n < 1) = true := decide_eq_true hn
    go_enter Tryd.func12, Tryd.ntmps12
    go_wp2_with fail
    go_ret2
    exact ⟨rfl, rfl⟩
  · have hd : decide (n < 1) = false := decide_eq_false (by omega)
    go_enter Tryd.func12, Tryd.ntmps12
    go_wp2_with fail
    go_ret2
    exact ⟨rfl, rfl⟩

set_option maxHeartbeats 400000 in
theorem size_yes (n m : Nat) (h1 : 1 ≤ n) (h2 : n ≤ 4096) (hm : m ≤ 12) (S : Nat) (hS : S = 2 ^ m) (hle : n ≤ 2 ^ m) (hlo : ∀ i, i < m → 2 ^ i < n) (w : World) : Calls Tryd.prog 11 #[.int .i64 n] w fun e w' => e = .returned (.tuple #[.int .i64 (S : Int), .bool true]) ∧ w' = w := by
  have hd : decide ((n : Int) < 1) = false := decide_eq_false (by omega)
  have hd2 : decide (4096 < (n : Int)) = false := decide_eq_false (by omega)
  have HL : Hid _ := hlo
  have HE : Hid (n ≤ 2 ^ m) := hle
  have HS : Hid (S = 2 ^ m) := hS
  clear hlo hle hS
  go_enter Tryd.func11, Tryd.ntmps11
  go_wp2_with fail
  go_loop [4] (fun v => ∃ i : Nat, i ≤ m ∧ ∃ z : Nat, z = 2 ^ i ∧ v = .int .i64 z) (fun v => 8192 - (intOf v).toNat)
  case atStart => exact ⟨0, Nat.zero_le _, 1, rfl, rfl⟩
  case round =>
    obtain ⟨i, hi, z, hz, rfl⟩ := hrel
    have HZ : Hid (z = 2 ^ i) := hz
    have hz1 : 1 ≤ z := by rw [hz]; exact Nat.one_le_two_pow
    clear hz
    by_cases e : i < m
    · have hzn : z < n := by rw [HZ.out]; exact HL.out i e
      go_wp2_with fail
      go_round
      case rel => exact ⟨i + 1, by omega, 2 * z, by rw [HZ.out, Nat.pow_succ, Nat.mul_comm], by go_num⟩
      case measure => simp [intOf]; omega
    · obtain rfl : i = m := by omega
      have hzn : n ≤ z := by rw [HZ.out]; exact HE.out
      have hzI : (n : Int) ≤ (z : Int) := by omega
      obtain rfl : z = S := by rw [HZ.out, HS.out]
      go_wp2_with fail
      go_ret2
      exact ⟨rfl, rfl⟩

set_option maxHeartbeats 400000 in
theorem refSize_yes (n m : Nat) (h1 : 1 ≤ n) (h2 : n ≤ 4096) (hm : m ≤ 12) (S : Nat) (hS : S = 2 ^ m) (hle : n ≤ 2 ^ m) (hlo : ∀ i, i < m → 2 ^ i < n) (w : World) : Calls Tryd.prog 12 #[.int .i64 n] w fun e w' => e = .returned (.tuple #[.int .i64 (S : Int), .bool true]) ∧ w' = w := by
  have hd : decide ((n : Int) < 1) = false := decide_eq_false (by omega)
  have hd2 : decide (4096 < (n : Int)) = false := decide_eq_false (by omega)
  have HL : Hid _ := hlo
  have HE : Hid (n ≤ 2 ^ m) := hle
  have HS : Hid (S = 2 ^ m) := hS
  clear hlo hle hS
  go_enter Tryd.func12, Tryd.ntmps12
  go_wp2_with fail
  go_loop [4] (fun v => ∃ i : Nat, i ≤ m ∧ ∃ z : Nat, z = 2 ^ i ∧ v = .int .i64 z) (fun v => 8192 - (intOf v).toNat)
  case atStart => exact ⟨0, Nat.zero_le _, 1, rfl, rfl⟩
  case round =>
    obtain ⟨i, hi, z, hz, rfl⟩ := hrel
    have HZ : Hid (z = 2 ^ i) := hz
    have hz1 : 1 ≤ z := by rw [hz]; exact Nat.one_le_two_pow
    clear hz
    by_cases e : i < m
    · have hzn : z < n := by rw [HZ.out]; exact HL.out i e
      go_wp2_with fail
      go_round
      case rel => exact ⟨i + 1, by omega, 2 * z, by rw [HZ.out, Nat.pow_succ, Nat.mul_comm], by go_num⟩
      case measure => simp [intOf]; omega
    · obtain rfl : i = m := by omega
      have hzn : n ≤ z := by rw [HZ.out]; exact HE.out
      have hzI : (n : Int) ≤ (z : Int) := by omega
      obtain rfl : z = S := by rw [HZ.out, HS.out]
      go_wp2_with fail
      go_ret2
      exact ⟨rfl, rfl⟩

set_option maxHeartbeats 400000 in
theorem greatest_any (ao : Option Addr) (n c : Nat) (hn : n ≤ 1152921504606846976) (L : Nat → Int) (w : World) (hl : Lies w ao n L) :
    Calls Tryd.prog 13 #[.slice ao n c] w fun e w' => e = .returned (.int .u64 (gr n L)) ∧ w' = w := by
  have HL : Hid (Lies w ao n L) := hl
  clear hl
  have hst : Hid (∀ i, (if gr i L < L i then L i else gr i L) = gr (i + 1) L) := fun i => rfl
  have h00 : Hid (gr 0 L = 0) := rfl
  generalize hG : (fun i => gr i L) = G at *
  have hGe : ∀ i, gr i L = G i := fun i => by rw [← hG]
  simp only [hGe] at hst h00 ⊢
  clear hG hGe
  go_enter Tryd.func13, Tryd.ntmps13
  go_wp2_with fail
  go_loop [3, 8] (fun vg vi => ∃ i : Nat, i ≤ n ∧ vi = .int .i64 i ∧ vg = .int .u64 (G i)) (fun _ vi => n - (intOf vi).toNat)
  case atStart => exact ⟨0, Nat.zero_le _, rfl, by rw [h00.out]⟩
  case round =>
    obtain ⟨i, hi, rfl, rfl⟩ := hrel
    by_cases hlt : i < n
    · obtain ⟨b, o, rfl, hf⟩ := HL.out (by omega)
      have hc := hf i hlt
      clear hf
      go_wp2_with fail
      go_round
      case rel => exact ⟨i + 1, by omega, by go_num, by rw [hst.out]⟩
      case measure => simp [intOf]; omega
    · obtain rfl : i = n := by omega
      go_wp2_with fail
      go_ret
      exact ⟨rfl, rfl⟩

set_option maxHeartbeats 400000 in
theorem refGreatest_any (ao : Option Addr) (n c : Nat) (hn : n ≤ 1152921504606846976) (L : Nat → Int) (w : World) (hl : Lies w ao n L) :
    Calls Tryd.prog 14 #[.slice ao n c] w fun e w' => e = .returned (.int .u64 (gr n L)) ∧ w' = w := by
  have HL : Hid (Lies w ao n L) := hl
  clear hl
  have hst : Hid (∀ i, gr i L < L i → L i = gr (i + 1) L) := fun i h => (gr_up h).symm
  have hst2 : Hid (∀ i, ¬ gr i L < L i → gr i L = gr (i + 1) L) := fun i h => (gr_stay h).symm
  have h00 : Hid (gr 0 L = 0) := rfl
  generalize hG : (fun i => gr i L) = G at *
  have hGe : ∀ i, gr i L = G i := fun i => by rw [← hG]
  simp only [hGe] at hst hst2 h00 ⊢
  clear hG hGe
  go_enter Tryd.func14, Tryd.ntmps14
  go_wp2_with fail
  go_loop [3, 4] (fun vg vi => ∃ i : Nat, i ≤ n ∧ vi = .int .i64 i ∧ vg = .int .u64 (G i)) (fun _ vi => n - (intOf vi).toNat)
  case atStart => exact ⟨0, Nat.zero_le _, rfl, by rw [h00.out]⟩
  case round =>
    obtain ⟨i, hi, rfl, rfl⟩ := hrel
    by_cases hlt : i < n
    · obtain ⟨b, o, rfl, hf⟩ := HL.out (by omega)
      have hc := hf i hlt
      clear hf
      by_cases hb : G i < L i
      · go_wp2_with fail
        go_round
        case rel => exact ⟨i + 1, by omega, by go_num, by rw [hst.out i hb]⟩
        case measure => simp [intOf]; omega
      · go_wp2_with fail
        go_round
        case rel => exact ⟨i + 1, by omega, by go_num, by rw [hst2.out i (by omega)]⟩
        case measure => simp [intOf]; omega
    · obtain rfl : i = n := by omega
      go_wp2_with fail
      go_ret
      exact ⟨rfl, rfl⟩
end Go.Proofs.YtcppcfbcgopmoaaDoor
