/- Contracts of the document's own answers of layer 6: Size, Single. -/
import Derived.Test.YtodjjajofiaehaaDoorClsRef
import Derived.Test.YtodjjajofiaehaaDoorClsLeast
namespace Go.Proofs.YtodjjajofiaehaaDoor
open Go.RowKit
namespace Cls

theorem cb_snoc (f : Nat → Bool) (n : Nat) : cb f 0 (n + 1) = cb f 0 n + (f n).toNat := by
  rw [cb_add, Nat.zero_add]
  congr 1
  simp [cb]
theorem cb_none (f : Nat → Bool) (n : Nat) : cb f 0 n = 0 ↔ ∀ x, x < n → f x = false := by
  induction n with
  | zero => simp [cb]
  | succ n ih =>
    rw [cb_snoc]
    constructor
    · intro h x hx
      by_cases e : x = n
      · subst e; cases hb : f x with
        | false => rfl
        | true => rw [hb] at h; simp at h
      · exact ih.1 (by omega) x (by omega)
    · intro h
      rw [ih.2 (fun x hx => h x (by omega)), h n (by omega)]
      rfl
theorem cb_one (f : Nat → Bool) (n : Nat) : cb f 0 n = 1 ↔ ∃ b, b < n ∧ ∀ x, x < n → f x = (x == b) := by
  induction n with
  | zero => simp [cb]
  | succ n ih =>
    rw [cb_snoc]
    constructor
    · intro h
      cases hb : f n with
      | true =>
        rw [hb] at h
        have h0 : cb f 0 n = 0 := by simp at h; omega
        refine ⟨n, by omega, fun x hx => ?_⟩
        by_cases e : x = n
        · subst e; simp [hb]
        · rw [(cb_none f n).1 h0 x (by omega), beq_eq_false_iff_ne.2 e]
      | false =>
        rw [hb] at h
        obtain ⟨b, h1, h2⟩ := ih.1 (by simp at h; omega)
        refine ⟨b, by omega, fun x hx => ?_⟩
        by_cases e : x = n
        · subst e; rw [hb, beq_eq_false_iff_ne.2 (by omega)]
        · exact h2 x (by omega)
    · rintro ⟨b, h1, h2⟩
      by_cases e : b = n
      · subst e
        have : cb f 0 b = 0 := (cb_none f b).2 (fun x hx => by rw [h2 x (by omega), beq_eq_false_iff_ne.2 (by omega)])
        rw [this, h2 b (by omega)]
        simp
      · have : cb f 0 n = 1 := ih.2 ⟨b, by omega, fun x hx => h2 x (by omega)⟩
        rw [this, h2 n (by omega), beq_eq_false_iff_ne.2 (by omega)]
        rfl

set_option maxHeartbeats 1000000 in
theorem refSize_any (f : Nat → Bool) (w : World) :
    Calls Tryd.prog 25 #[.agg #[.int .u64 ((wd (f) 0 : Nat) : Int), .int .u64 ((wd (f) 1 : Nat) : Int), .int .u64 ((wd (f) 2 : Nat) : Int), .int .u64 ((wd (f) 3 : Nat) : Int)]] w fun e w' => e = .returned (.int .i64 ((cb f 0 256 : Nat) : Int)) ∧ Below w.heap.size w w' := by
  obtain ⟨w1, b1⟩ := box w f
  have E1 : Hid _ := b1.eq
  have B1 : Hid (Below w.heap.size w w1) := b1.bel
  have c1 : Hid _ := refBytes_any f w1
  clear b1
  go_enter Tryd.func25, Tryd.ntmps25
  go_wp2_with fail
  rw [← E1.out]
  clear E1
  refine Calls.mono (Hid.out c1) ?_; rintro e w2 ⟨g, cap, rfl, hg, hgl, hV, _, b2⟩
  have B2 : Hid (Below w.heap.size w w2) := B1.out.trans (b2.mono B1.out.size)
  have HV : Hid (Fv w2 g 256 (bo f)) := hV
  clear b2 hV c1 B1
  go_wp2_with fail
  go_loopw [3, 5] (fun vn vb wr => wr = w2 ∧ ∃ b : Nat, b ≤ 256 ∧ vb = .int .i64 b ∧ vn = .int .i64 ((cb f 0 b : Nat) : Int)) (fun _ vb _ => 256 - (intOf vb).toNat)
  case atStart => exact ⟨rfl, 0, Nat.zero_le _, rfl, by simp [cb]⟩
  case round =>
    obtain ⟨rfl, b, hb, rfl, rfl⟩ := hrel
    by_cases hlt : b < 256
    · have hbI : (b : Int) < 256 := by omega
      have hck : wr.cell? ⟨g, b, none⟩ = some (.bool (f b)) := HV.out b hlt
      have hs : Hid _ := cb_snoc f b
      have hle := cb_le f 0 b
      obtain ⟨N, hN⟩ : ∃ N, cb f 0 b = N := ⟨_, rfl⟩
      rw [hN] at hs hle ⊢
      have hNI : (N : Int) ≤ 256 := by omega
      clear hN hle
      cases hfb : f b with
      | true =>
        rw [hfb] at hck
        go_wp2_with fail
        go_roundw
        case rel => exact ⟨trivial, b + 1, by omega, by go_num, by rw [hs.out, hfb]; go_num⟩
        case measure => simp [intOf]; omega
      | false =>
        rw [hfb] at hck
        go_wp2_with fail
        go_roundw
        case rel => exact ⟨trivial, b + 1, by omega, by go_num, by rw [hs.out, hfb]; simp⟩
        case measure => simp [intOf]; omega
    · obtain rfl : b = 256 := by omega
      go_wp2_with fail
      go_ret
      exact ⟨rfl, B2.out⟩

set_option maxHeartbeats 1000000 in
theorem refSingle_any (f : Nat → Bool) (w : World) :
    Calls Tryd.prog 21 #[.agg #[.int .u64 ((wd (f) 0 : Nat) : Int), .int .u64 ((wd (f) 1 : Nat) : Int), .int .u64 ((wd (f) 2 : Nat) : Int), .int .u64 ((wd (f) 3 : Nat) : Int)]] w fun e w' => (∃ (b : Nat) (t : Bool), Sgl f b t ∧ b < 256 ∧ e = .returned (.tuple #[.int .u8 (b : Int), .bool t])) ∧ Below w.heap.size w w' := by
  obtain ⟨w1, b1⟩ := box w f
  have E1 : Hid _ := b1.eq
  have B1 : Hid (Below w.heap.size w w1) := b1.bel
  have F1 : Hid (Fam w1 w.heap.size 0 4 (wi f)) := b1.fam
  have s1 : w.heap.size < w1.heap.size := by have := b1.size; omega
  have c1 : Hid _ := refSize_any f w1
  clear b1
  by_cases h1 : cb f 0 256 = 1
  · obtain ⟨c, hc, hf⟩ := (cb_one f 256).1 h1
    rw [h1] at c1
    have HF : Hid _ := hf
    clear h1 hf
    go_enter Tryd.func21, Tryd.ntmps21
    go_wp2_with fail
    rw [← E1.out]
    clear E1
    refine Calls.mono (Hid.out c1) ?_; rintro e w2 ⟨rfl, b2⟩
    have B2 : Hid (Below w.heap.size w w2) := B1.out.trans (b2.mono B1.out.size)
    have F2 : Hid (Fam w2 w.heap.size 0 4 (wi f)) := F1.out.below b2 s1
    have s2 : w.heap.size < w2.heap.size := Nat.lt_of_lt_of_le s1 b2.size
    clear b2 c1 B1 F1
    go_wp2_with fail
    go_loopw [4] (fun vb wr => ∃ b : Nat, b ≤ c ∧ vb = .int .i64 b ∧ Below w2.heap.size w2 wr) (fun vb _ => 256 - (intOf vb).toNat)
    case atStart => exact ⟨0, Nat.zero_le _, rfl, Below.refl _ _⟩
    case round =>
      obtain ⟨b, hb, rfl, hbel⟩ := hrel
      have hbI : (b : Int) < 256 := by omega
      obtain ⟨a0, a1, a2, a3⟩ := c4 (F2.out.below hbel s2)
      have c3 : Hid _ := refHas_any f b (by omega) wr
      have HB : Hid (Below w2.heap.size w2 wr) := hbel
      have hfb : f b = (b == c) := HF.out b (by omega)
      clear hbel
      by_cases hlt : b < c
      · rw [hfb, beq_eq_false_iff_ne.2 (by omega : b ≠ c)] at c3
        clear hfb
        go_wp2_with fail
        refine Calls.mono (Hid.out c3) ?_; rintro e w3 ⟨rfl, b3⟩
        have HB3 : Hid (Below w2.heap.size w2 w3) := HB.out.trans (b3.mono HB.out.size)
        clear b3
        go_wp2_with fail
        go_roundw
        case rel => exact ⟨b + 1, by omega, by go_num, HB3.out⟩
        case measure => simp [intOf]; omega
      · obtain rfl : b = c := by omega
        rw [hfb, beq_self_eq_true] at c3
        clear hfb
        go_wp2_with fail
        refine Calls.mono (Hid.out c3) ?_; rintro e w3 ⟨rfl, b3⟩
        have HB3 : Hid (Below w.heap.size w w3) := B2.out.trans ((HB.out.trans (b3.mono HB.out.size)).mono B2.out.size)
        clear b3
        go_wp2_with fail
        go_ret2
        exact ⟨⟨b, true, Or.inl ⟨rfl, hc, HF.out⟩, hc, rfl⟩, HB3.out⟩
  · have HN : Hid (Sgl f 0 false) := Or.inr ⟨rfl, rfl, fun h => h1 ((cb_one f 256).2 h)⟩
    obtain ⟨N, hN⟩ : ∃ N, cb f 0 256 = N := ⟨_, rfl⟩
    rw [hN] at c1 h1
    have hne : ¬ (N : Int) = 1 := by omega
    clear hN h1
    go_enter Tryd.func21, Tryd.ntmps21
    go_wp2_with fail
    rw [← E1.out]
    clear E1
    refine Calls.mono (Hid.out c1) ?_; rintro e w2 ⟨rfl, b2⟩
    have B2 : Hid (Below w.heap.size w w2) := B1.out.trans (b2.mono B1.out.size)
    clear b2 c1 B1 F1
    go_wp2_with fail
    go_ret2
    exact ⟨⟨0, false, HN.out, by omega, rfl⟩, B2.out⟩
end Cls
end Go.Proofs.YtodjjajofiaehaaDoor
