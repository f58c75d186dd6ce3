/- Contracts of beagleref13.hex, in, sign; a 'Got' in a box. -/
import Derived.Test.YtljahelbbafhlaaDoorTkMath
import Derived.Test.YtljahelbbafhlaaDoorNvA
namespace Go.Proofs.YtljahelbbafhlaaDoor
open Go.RowKit
namespace Cls

/-- A digit's number; below 0: it is none. -/
def hxi (b : Nat) : Int := match hexv b with | some v => (v : Int) | none => -1

theorem hxi_dec {b : Nat} (h : 48 ≤ b ∧ b ≤ 57) : hxi b = (b : Int) - 48 := by
  unfold hxi hexv
  rw [if_pos h]
  show ((b - 48 : Nat) : Int) = _
  omega

theorem hxi_let {b : Nat} (h : 97 ≤ b ∧ b ≤ 102) : hxi b = (b : Int) - 87 := by
  unfold hxi hexv
  rw [if_neg (by omega), if_pos h]
  show ((b - 87 : Nat) : Int) = _
  omega

theorem hxi_no {b : Nat} (h : ¬ (48 ≤ b ∧ b ≤ 57)) (h2 : ¬ (97 ≤ b ∧ b ≤ 102)) : hxi b = -1 := by
  unfold hxi hexv
  rw [if_neg h, if_neg h2]

theorem hxi_some (b : Nat) : (0 ≤ hxi b) ↔ (hexv b).isSome = true := by
  unfold hxi
  cases hexv b with
  | none => simp
  | some v => simp

theorem hxi_get {b : Nat} (h : 0 ≤ hxi b) : hxi b = (((hexv b).getD 0 : Nat) : Int) ∧ (hexv b).getD 0 < 16 := by
  by_cases h1 : 48 ≤ b ∧ b ≤ 57
  · rw [hxi_dec h1]
    unfold hexv
    rw [if_pos h1]
    show _ = ((b - 48 : Nat) : Int) ∧ b - 48 < 16
    omega
  · by_cases h2 : 97 ≤ b ∧ b ≤ 102
    · rw [hxi_let h2]
      unfold hexv
      rw [if_neg h1, if_pos h2]
      show _ = ((b - 87 : Nat) : Int) ∧ b - 87 < 16
      omega
    · rw [hxi_no h1 h2] at h
      omega

set_option maxHeartbeats 1000000 in
theorem hex13_any (b : Nat) (hb : b < 256) (w : World) :
    Calls Tryd.prog 78 #[.int .u8 (b : Int)] w fun e w' => e = .returned (.int .i64 (hxi b)) ∧ Below w.heap.size w w' := by
  have hw1 : IntKind.i64.wrap (b : Int) = (b : Int) := by rw [IntKind.wrap_i64]; omega
  by_cases h1 : 48 ≤ b
  · have h1I : (48 : Int) ≤ (b : Int) := by omega
    by_cases h2 : b ≤ 57
    · have h2I : (b : Int) ≤ 57 := by omega
      have hw2 : IntKind.i64.wrap ((b : Int) - 48) = (b : Int) - 48 := by rw [IntKind.wrap_i64]; omega
      rw [hxi_dec ⟨h1, h2⟩]
      go_enter Tryd.func78, Tryd.ntmps78
      go_wp2_with fail
      go_ret
      exact ⟨rfl, Below.refl _ _⟩
    · have h2I : ¬ (b : Int) ≤ 57 := by omega
      by_cases h3 : 97 ≤ b
      · have h3I : (97 : Int) ≤ (b : Int) := by omega
        by_cases h4 : b ≤ 102
        · have h4I : (b : Int) ≤ 102 := by omega
          have hw2 : IntKind.i64.wrap ((b : Int) - 87) = (b : Int) - 87 := by rw [IntKind.wrap_i64]; omega
          rw [hxi_let ⟨h3, h4⟩]
          go_enter Tryd.func78, Tryd.ntmps78
          go_wp2_with fail
          go_ret
          exact ⟨rfl, Below.refl _ _⟩
        · have h4I : ¬ (b : Int) ≤ 102 := by omega
          rw [hxi_no (by omega) (by omega)]
          go_enter Tryd.func78, Tryd.ntmps78
          go_wp2_with fail
          go_ret
          exact ⟨rfl, Below.refl _ _⟩
      · have h3I : ¬ (97 : Int) ≤ (b : Int) := by omega
        rw [hxi_no (by omega) (by omega)]
        go_enter Tryd.func78, Tryd.ntmps78
        go_wp2_with fail
        go_ret
        exact ⟨rfl, Below.refl _ _⟩
  · have h1I : ¬ (48 : Int) ≤ (b : Int) := by omega
    have h3I : ¬ (97 : Int) ≤ (b : Int) := by omega
    rw [hxi_no (by omega) (by omega)]
    go_enter Tryd.func78, Tryd.ntmps78
    go_wp2_with fail
    go_ret
    exact ⟨rfl, Below.refl _ _⟩

set_option maxHeartbeats 1000000 in
theorem sign13_any (b : Nat) (w : World) :
    Calls Tryd.prog 48 #[.int .u8 (b : Int)] w fun e w' => e = .returned (.bool (sgn b)) ∧ Below w.heap.size w w' := by
  by_cases h1 : 32 ≤ b
  · have h1I : (32 : Int) ≤ (b : Int) := by omega
    by_cases h2 : b ≤ 126
    · have h2I : (b : Int) ≤ 126 := by omega
      rw [show sgn b = true by unfold sgn; rw [decide_eq_true h1, decide_eq_true h2]; rfl]
      go_enter Tryd.func48, Tryd.ntmps48
      go_wp2_with fail
      go_ret
      exact ⟨rfl, Below.refl _ _⟩
    · have h2I : ¬ (b : Int) ≤ 126 := by omega
      rw [show sgn b = false by unfold sgn; rw [decide_eq_false h2, Bool.and_false]]
      go_enter Tryd.func48, Tryd.ntmps48
      go_wp2_with fail
      go_ret
      exact ⟨rfl, Below.refl _ _⟩
  · have h1I : ¬ (32 : Int) ≤ (b : Int) := by omega
    rw [show sgn b = false by unfold sgn; rw [decide_eq_false h1, Bool.false_and]]
    go_enter Tryd.func48, Tryd.ntmps48
    go_wp2_with fail
    go_ret
    exact ⟨rfl, Below.refl _ _⟩

/-- Is a byte one of a text's? -/
def isin (s : ByteArray) (b : Nat) : Bool := (List.range s.size).any fun k => byt s k == b

theorem isin_yes {s : ByteArray} {b k : Nat} (hk : k < s.size) (h : byt s k = b) : isin s b = true := List.any_eq_true.2 ⟨k, List.mem_range.2 hk, by rw [h]; exact beq_self_eq_true b⟩

theorem isin_no {s : ByteArray} {b : Nat} (h : ∀ k, k < s.size → byt s k ≠ b) : isin s b = false := by
  rw [← Bool.not_eq_true]
  intro hh
  obtain ⟨k, hk, he⟩ := List.any_eq_true.1 hh
  exact h k (List.mem_range.1 hk) (by simpa using he)

set_option maxHeartbeats 1000000 in
theorem in13_any (s : ByteArray) (b : Nat) (hs : s.size ≤ 1000000) (w : World) :
    Calls Tryd.prog 50 #[.string s, .int .u8 (b : Int)] w fun e w' => e = .returned (.bool (isin s b)) ∧ Below w.heap.size w w' := by
  go_enter Tryd.func50, Tryd.ntmps50
  go_wp2_with fail
  go_loopw [5] (fun vk wr => Below w.heap.size w wr ∧ ∃ k : Nat, k ≤ s.size ∧ vk = .int .i64 k ∧ ∀ t, t < k → byt s t ≠ b) (fun vk _ => s.size - (intOf vk).toNat)
  case atStart => exact ⟨Below.refl _ _, 0, Nat.zero_le _, rfl, fun t ht => by omega⟩
  case round =>
    obtain ⟨hbel, k, hk, rfl, hall⟩ := hrel
    have HB : Hid _ := hbel
    have HA : Hid _ := hall
    clear hall hbel
    by_cases hkn : k < s.size
    · have hkI : (k : Int) < (s.size : Int) := by omega
      have hix : ∀ w, (Instr.index 9 (.string s) (.int .i64 (k : Int))).run Tryd.prog w = .ok (.int .u8 ((byt s k : Nat) : Int)) w := fun w => idx_str s k hkn w
      by_cases hq : byt s k = b
      · have HY : Hid (isin s b = true) := isin_yes hkn hq
        rw [hq] at hix
        go_wp2_with fail
        go_ret
        exact ⟨by rw [HY.out]; rfl, HB.out⟩
      · have HS : Hid (∀ t, t < k + 1 → byt s t ≠ b) := fun t ht => by
          by_cases e : t = k
          · subst e; exact hq
          · exact HA.out t (by omega)
        have hqI : ¬ ((byt s k : Nat) : Int) = (b : Int) := by omega
        generalize byt s k = x at *
        go_wp2_with fail
        go_roundw
        case rel => exact ⟨HB.out, k + 1, by omega, by go_num, HS.out⟩
        case measure => simp [intOf]; omega
    · obtain rfl : k = s.size := by omega
      have HN : Hid (isin s b = false) := isin_no HA.out
      go_wp2_with fail
      go_ret
      exact ⟨by rw [HN.out]; rfl, HB.out⟩

def escT : ByteArray := ⟨#[92, 34, 63, 91, 93, 45, 94]⟩
def itmT : ByteArray := ⟨#[34, 91, 93, 45, 94]⟩
def aptET : ByteArray := ⟨#[92, 34, 63, 91]⟩
def aptCT : ByteArray := ⟨#[92, 34, 91, 93, 45, 94]⟩

theorem isin_lst (L : List Nat) (s : ByteArray) (hs : s.size = L.length) (h : ∀ k, (hk : k < L.length) → byt s k = L[k]) (b : Nat) : isin s b = L.contains b := by
  rw [Bool.eq_iff_iff, List.contains_iff_mem]
  constructor
  · intro hh
    obtain ⟨k, hk, he⟩ := List.any_eq_true.1 hh
    have hk2 : k < L.length := by rw [← hs]; exact List.mem_range.1 hk
    rw [h k hk2] at he
    rw [← (by simpa using he : L[k] = b)]
    exact List.getElem_mem hk2
  · intro hh
    obtain ⟨k, hk, he⟩ := List.getElem_of_mem hh
    exact isin_yes (by rw [hs]; exact hk) (by rw [h k hk, he])

theorem isin_esc (b : Nat) : isin escT b = escs.contains b := isin_lst escs escT rfl (by decide) b

theorem isin_itm (b : Nat) : isin itmT b = [34, 91, 93, 45, 94].contains b := isin_lst [34, 91, 93, 45, 94] itmT rfl (by decide) b

theorem isin_aptE (b : Nat) : isin aptET b = aptE.contains b := isin_lst aptE aptET rfl (by decide) b

theorem isin_aptC (b : Nat) : isin aptCT b = aptC.contains b := isin_lst aptC aptCT rfl (by decide) b

end Cls
end Go.Proofs.YtljahelbbafhlaaDoor
