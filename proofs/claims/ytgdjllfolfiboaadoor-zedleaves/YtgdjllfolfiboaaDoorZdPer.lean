/- Contracts of zed.Period, and of the document's Period. -/
import Derived.Test.YtgdjllfolfiboaaDoorZdFind
namespace Go.Proofs.YtgdjllfolfiboaaDoor
open Go.RowKit
namespace Cls

/-- The period of a text; 0 of the empty one. -/
def Pd (s : ByteArray) (x : Nat) : Prop := (s.size = 0 ∧ x = 0) ∨ Per s x

theorem pd_some (s : ByteArray) : ∃ x, Pd s x := by
  have h : ∀ k, (∃ x, 1 ≤ x ∧ x < k ∧ per s x ∧ ∀ q, 1 ≤ q → q < x → ¬ per s q) ∨ (∀ q, 1 ≤ q → q < k → ¬ per s q) := by
    intro k
    induction k with
    | zero => exact Or.inr (fun q h1 h2 => by omega)
    | succ k ih =>
      rcases ih with ⟨x, h1, h2, h3, h4⟩ | ih
      · exact Or.inl ⟨x, h1, by omega, h3, h4⟩
      · by_cases hp : 1 ≤ k ∧ per s k
        · exact Or.inl ⟨k, hp.1, by omega, hp.2, ih⟩
        · refine Or.inr (fun q h1 h2 h3 => ?_)
          by_cases e : q = k
          · subst e; exact hp ⟨h1, h3⟩
          · exact ih q h1 (by omega) h3
  by_cases h0 : s.size = 0
  · exact ⟨0, Or.inl ⟨h0, rfl⟩⟩
  · rcases h s.size with ⟨x, h1, h2, h3, h4⟩ | h
    · exact ⟨x, Or.inr ⟨h1, by omega, h3, h4⟩⟩
    · exact ⟨s.size, Or.inr ⟨by omega, Nat.le_refl _, per_size s, h⟩⟩

theorem Pd.at {s : ByteArray} {x k : Nat} (h : Pd s x) (h1 : 1 ≤ k) (h2 : k ≤ s.size) (hp : per s k) (hn : ∀ q, 1 ≤ q → q < k → ¬ per s q) : x = k := by
  rcases h with ⟨h, _⟩ | h
  · omega
  · exact h.one ⟨h1, h2, hp, hn⟩

theorem Pd.end {s : ByteArray} {x : Nat} (h : Pd s x) (hn : ∀ q, 1 ≤ q → q < s.size → ¬ per s q) : x = s.size := by
  by_cases h0 : s.size = 0
  · rcases h with ⟨h, e⟩ | h
    · omega
    · have := h.pos; have := h.le; omega
  · exact h.at (by omega) (Nat.le_refl _) (per_size s) hn

set_option maxHeartbeats 2000000 in
theorem period_any (s : ByteArray) (hs : s.size ≤ 1000000) (x : Nat) (hx : Pd s x) (w : World) :
    Calls Tryd.prog 18 #[.string s] w fun e w' => e = .returned (.int .i64 ((x : Nat) : Int)) ∧ Below w.heap.size w w' := by
  obtain ⟨n, hn⟩ : ∃ n, (rwl s).length = n := ⟨_, rfl⟩
  have hns : n = s.size := by rw [← hn, rwl_len]
  have C1 : Hid (Calls Tryd.prog 11 #[.string s] w fun e w' => ∃ bo d, e = .returned (.slice bo s.size d) ∧ (1 ≤ s.size → ∃ b, bo = some ⟨b, 0, none⟩ ∧ ∀ j, j < s.size → w'.cell? ⟨b, j, none⟩ = some (.int .i64 ((zr s j : Nat) : Int))) ∧ Below w.heap.size w w') := (rows_any s hs w).mono (by
    rintro e w' ⟨⟨bo, d, rfl, hi, hg, _⟩, hb⟩
    rw [rwl_len] at hg
    refine ⟨bo, d, by rw [rwl_len], fun h0 => ?_, hb⟩
    obtain ⟨b, e, hlt, hc⟩ := hi (by rw [rwl_len]; exact h0)
    refine ⟨b, e, fun j hj => ?_⟩
    have := hc j (by rw [rwl_len]; exact hj)
    rw [rwl_at] at this
    exact this)
  have HX : Hid (Pd s x) := hx
  clear hn hns hx
  go_enter Tryd.func18, Tryd.ntmps18
  go_wp2_with fail
  refine Calls.mono (Hid.out C1) ?_; rintro e w1 ⟨bo, d, rfl, hrow, b1⟩
  have HRow : Hid _ := hrow
  have B1 : Hid _ := b1
  clear hrow b1 C1
  go_wp2_with fail
  go_loopw [8] (fun vk wr => Wrote (fun _ _ => False) w1 wr ∧ ∃ k : Nat, k ≤ s.size ∧ vk = .int .i64 k ∧ ∀ q, 1 ≤ q → q < k → ¬ per s q) (fun vk _ => s.size - (intOf vk).toNat)
  case atStart => exact ⟨Wrote.refl _ _, 0, Nat.zero_le _, rfl, fun q h1 h2 => by omega⟩
  case round =>
    obtain ⟨hwr, k, hk, rfl, hno⟩ := hrel
    have HWr : Hid _ := hwr
    have HN : Hid _ := hno
    clear hwr hno
    have HB : Hid (Below w.heap.size w wr) := B1.out.trans (HWr.out.below (fun _ _ e => e.elim))
    by_cases hkn : k < s.size
    · have hkI : (k : Int) < (s.size : Int) := by omega
      obtain ⟨b, rfl, hc⟩ := HRow.out (by omega)
      have hck := (HWr.out.cell b k (fun e => e)).trans (hc k hkn)
      have hle := zr_le s k hk
      have HP : Hid _ := per_zr (s := s) hk
      obtain ⟨z, hz⟩ : ∃ z, zr s k = z := ⟨_, rfl⟩
      rw [hz] at hck hle HP
      clear hc hz
      by_cases hk0 : k = 0
      · subst hk0
        go_wp2_with fail
        go_roundw
        case rel => exact ⟨HWr.out, 1, by omega, by go_num, fun q h1 h2 => by omega⟩
        case measure => simp [intOf]; omega
      · have hk0I : (0 : Int) < (k : Int) := by omega
        by_cases hkz : k + z = s.size
        · have hkzI : (k : Int) + (z : Int) = (s.size : Int) := by omega
          have HE : Hid (x = k) := Pd.at HX.out (by omega) hk (HP.out.2 hkz) HN.out
          clear hkz
          go_wp2_with fail
          go_ret
          exact ⟨by rw [HE.out]; rfl, HB.out⟩
        · have hkzI : ¬ (k : Int) + (z : Int) = (s.size : Int) := by omega
          have hkzB : ((k : Int) + (z : Int) == (s.size : Int)) = false := by simpa using hkzI
          have HN2 : Hid (∀ q, 1 ≤ q → q < k + 1 → ¬ per s q) := fun q h1 h2 h3 => by
            by_cases e : q = k
            · subst e; exact hkz (HP.out.1 h3)
            · exact HN.out q h1 (by omega) h3
          clear hkz
          go_wp2_with fail
          go_roundw
          case rel => exact ⟨HWr.out, k + 1, by omega, by go_num, HN2.out⟩
          case measure => simp [intOf]; omega
    · obtain rfl : k = s.size := by omega
      have HE : Hid (x = s.size) := Pd.end HX.out HN.out
      go_wp2_with fail
      go_ret
      exact ⟨by rw [HE.out]; rfl, HB.out⟩

/-- Whether the bytes ahead of j are those k places behind. -/
def upt (s : ByteArray) (k j : Nat) (b : Bool) : Prop := b = true ↔ ∀ q, q < j → byt s q = byt s (q + k)

set_option maxHeartbeats 2000000 in
theorem refPeriod_any (s : ByteArray) (hs : s.size ≤ 1000000) (x : Nat) (hx : Pd s x) (w : World) :
    Calls Tryd.prog 19 #[.string s] w fun e w' => e = .returned (.int .i64 ((x : Nat) : Int)) ∧ Below w.heap.size w w' := by
  have HX : Hid (Pd s x) := hx
  clear hx
  go_enter Tryd.func19, Tryd.ntmps19
  go_wp2_with fail
  go_loopw [3] (fun vp wr => Wrote (fun _ _ => False) w wr ∧ ∃ k : Nat, 1 ≤ k ∧ (k ≤ s.size ∨ k = 1) ∧ vp = .int .i64 k ∧ ∀ q, 1 ≤ q → q < k → ¬ per s q) (fun vk _ => s.size + 1 - (intOf vk).toNat)
  case atStart => exact ⟨Wrote.refl _ _, 1, by omega, Or.inr rfl, rfl, fun q h1 h2 => by omega⟩
  case round =>
    obtain ⟨hwr, k, hk1, hk, rfl, hno⟩ := hrel
    have HWo : Hid _ := hwr
    have HN : Hid _ := hno
    clear hwr hno
    by_cases hkn : k < s.size
    · have hkI : (k : Int) < (s.size : Int) := by omega
      go_wp2_with fail
      rename World => wo
      go_loopw [4, 5] (fun vb vi wr => Wrote (fun _ _ => False) w wr ∧ ∃ (b : Bool) (j : Nat), j + k ≤ s.size ∧ vb = .bool b ∧ vi = .int .i64 j ∧ upt s k j b) (fun _ vi _ => s.size - (intOf vi).toNat)
      case atStart => exact ⟨HWo.out, true, 0, by omega, rfl, rfl, ⟨fun _ q hq => by omega, fun _ => rfl⟩⟩
      case round =>
        obtain ⟨hwr, b, j, hj, rfl, rfl, hb⟩ := hrel
        have HWr : Hid _ := hwr
        have HBq : Hid (upt s k j b) := hb
        clear hwr hb
        obtain ⟨z, hz⟩ : ∃ z, j + k = z := ⟨_, rfl⟩
        have hzI : (j : Int) + (k : Int) = (z : Int) := by omega
        have hwz : IntKind.i64.wrap ((j : Int) + (k : Int)) = (z : Int) := by rw [hzI, IntKind.wrap_i64]; omega
        have HZ : Hid _ := hz
        rw [hz] at hj
        by_cases g2 : z < s.size
        · have k2 : (z : Int) < (s.size : Int) := by omega
          have k1 : (j : Int) < (s.size : Int) := by omega
          have ix := idx_str s j (by omega)
          have iz := idx_str s z g2
          have hb1 := byt_lt s z
          have hb2 := byt_lt s j
          have HWd : Hid (∀ q, Wrote (fun _ _ => False) w (wr.drewN q)) := fun q => HWr.out.drewN q
          have hz3 : j + 1 + k ≤ s.size := by omega
          clear hz
          cases b with
          | false =>
            have HB2 : Hid (upt s k (j + 1) false) := Iff.intro (fun e => (by cases e)) (fun h => Iff.mpr HBq.out (fun q hq => h q (by omega)))
            go_wp2_with fail
            go_quiet (fail)
            go_wp2_with fail
            go_roundw
            case rel => exact ⟨HWd.out _, false, j + 1, hz3, rfl, by go_num, HB2.out⟩
            case measure => simp [intOf]; omega
          | true =>
            have hall := Iff.mp HBq.out rfl
            by_cases g3 : byt s j = byt s z
            · have HB2 : Hid (upt s k (j + 1) true) := Iff.intro (fun _ q hq => (by
                by_cases e : q = j
                · subst e; rw [HZ.out]; exact g3
                · exact hall q (by omega))) (fun _ => rfl)
              rw [g3] at ix
              clear hall g3
              go_wp2_with fail
              go_quiet (fail)
              go_wp2_with fail
              go_roundw
              case rel => exact ⟨HWd.out _, true, j + 1, hz3, rfl, by go_num, HB2.out⟩
              case measure => simp [intOf]; omega
            · have HB2 : Hid (upt s k (j + 1) false) := Iff.intro (fun e => (by cases e)) (fun h => absurd (by have := h j (by omega); rw [HZ.out] at this; exact this) g3)
              have k3 : ¬ ((byt s j : Nat) : Int) = ((byt s z : Nat) : Int) := by omega
              have k4 : (((byt s j : Nat) : Int) == ((byt s z : Nat) : Int)) = false := by simpa using k3
              clear hall g3
              go_wp2_with fail
              go_quiet (fail)
              go_wp2_with fail
              go_roundw
              case rel => exact ⟨HWd.out _, false, j + 1, hz3, rfl, by go_num, HB2.out⟩
              case measure => simp [intOf]; omega
        · have k2 : ¬ (z : Int) < (s.size : Int) := by omega
          have HP : Hid (b = true ↔ per s k) := Iff.trans HBq.out ⟨fun h i hi => h i (by omega), fun h q hq => h q (by omega)⟩
          clear hz
          cases b with
          | true =>
            have HE : Hid (x = k) := Pd.at HX.out (by omega) (by omega) (HP.out.1 rfl) HN.out
            have HB : Hid (Below w.heap.size w wr) := HWr.out.below (fun _ _ e => e.elim)
            go_wp2_with fail
            go_ret
            exact ⟨by rw [HE.out]; rfl, HB.out⟩
          | false =>
            have HN2 : Hid (∀ q, 1 ≤ q → q < k + 1 → ¬ per s q) := fun q h1 h2 h3 => by
              by_cases e : q = k
              · subst e; exact absurd (HP.out.2 h3) (by decide)
              · exact HN.out q h1 (by omega) h3
            go_wp2_with fail
            go_roundw
            case rel => exact ⟨HWr.out, k + 1, by omega, Or.inl (by omega), by go_num, HN2.out⟩
            case measure => simp [intOf]; omega
    · have hkI : ¬ (k : Int) < (s.size : Int) := by omega
      have HE : Hid (x = s.size) := Pd.end HX.out (fun q h1 h2 => HN.out q h1 (by omega))
      have HB : Hid (Below w.heap.size w wr) := HWo.out.below (fun _ _ e => e.elim)
      go_wp2_with fail
      go_ret
      exact ⟨by rw [HE.out]; rfl, HB.out⟩

end Cls
end Go.Proofs.YtgdjllfolfiboaaDoor
