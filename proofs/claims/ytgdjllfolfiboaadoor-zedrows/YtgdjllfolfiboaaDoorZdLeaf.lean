/- Contracts of zed.Leaf, and of the document's Leaf. -/
import Derived.Test.YtgdjllfolfiboaaDoorZdFind
import Derived.Test.YtgdjllfolfiboaaDoorLfA
namespace Go.Proofs.YtgdjllfolfiboaaDoor
open Go.RowKit
namespace Cls

/-- May a leaf be found by rows. -/
def zok (P : Nat → Nat → Bool) (n : Nat) (K : Int) : Bool := rgt P n K && decide (K = 0) && als P n

/-- What is found so. -/
def zfd (P : Nat → Nat → Bool) (n : Nat) (K : Int) (t : ByteArray) : List Nat := if zok P n K = true then fdl (ltx P n) t else []

def Told2 (w : World) (L : List Nat) (b : Bool) (e : Ending) (w' : World) : Prop :=
  (∃ bo d, e = .returned (.tuple #[.slice bo L.length d, .bool b]) ∧ Is w' bo L) ∧ Below w.heap.size w w'

theorem told2_nil {w w' : World} (h : Below w.heap.size w w') : Told2 w [] false (.returned (.tuple #[.slice none 0 0, .bool false])) w' := ⟨⟨none, 0, rfl, fun h => absurd h (by simp)⟩, h⟩

theorem zfd_no {P : Nat → Nat → Bool} {n : Nat} {K : Int} {t : ByteArray} (h : zok P n K = false) : zfd P n K t = [] := if_neg (by rw [h]; decide)

theorem zfd_yes {P : Nat → Nat → Bool} {n : Nat} {K : Int} {t : ByteArray} (h : zok P n K = true) : zfd P n K t = fdl (ltx P n) t := if_pos h

theorem ltx_size {P : Nat → Nat → Bool} {n : Nat} (h : als P n = true) : (ltx P n).size = n := by rw [ltx_yes h]; show (lts P n).toArray.size = n; simp [lts_len]

set_option maxHeartbeats 2000000 in
theorem leaf09_any (P : Nat → Nat → Bool) (n cap : Nat) (ao : Option Addr) (K : Int) (t : ByteArray) (ht : t.size ≤ 1000000) (w : World) (hT : TabB w) (hl : Lf w ao n P) :
    Calls Tryd.prog 15 #[.agg #[.slice ao n cap, .int .i64 K], .string t] w (Told2 w (zfd P n K t) (zok P n K)) := by
  obtain ⟨w1, b1⟩ := lbox w (.slice ao n cap) (.int .i64 K)
  have E1 : Hid _ := b1.eq
  have B1 : Hid (Below w.heap.size w w1) := b1.bel
  have s1 : w.heap.size < w1.heap.size := by have := b1.size; omega
  have HC : Hid (w1.cell? ⟨w.heap.size, 0, none⟩ = some (.slice ao n cap) ∧ w1.cell? ⟨w.heap.size, 1, none⟩ = some (.int .i64 K)) := ⟨b1.c0, b1.c1⟩
  have c0 := HC.out.1
  have c1 := HC.out.2
  have HL1 : Hid (Lf w1 ao n P) := hl.grow b1.bel
  have HT1 : Hid (TabB w1) := hT.grow b1.bel
  have C1 : Hid _ := right_any P n cap ao K w1 HL1.out
  clear b1 hl hT
  cases hr : rgt P n K with
  | false =>
    have hz : zok P n K = false := by unfold zok; rw [hr]; rfl
    rw [hz, zfd_no hz]
    rw [hr] at C1
    clear hz hr
    go_enter Tryd.func15, Tryd.ntmps15
    go_wp2_with (first | rw [← E1.out])
    refine Calls.mono (Hid.out C1) ?_; rintro e w2 ⟨rfl, b2⟩
    have B2 : Hid (Below w.heap.size w w2) := B1.out.trans (b2.mono B1.out.size)
    clear b2 C1 c0 c1 E1
    go_wp2_with fail
    go_ret2
    exact told2_nil B2.out
  | true =>
    rw [hr] at C1
    by_cases hK : K = 0
    · have C2 : Hid (∀ v, Below w1.heap.size w1 v → Calls Tryd.prog 23 #[.agg #[.slice ao n cap, .int .i64 K]] v fun e w' => e = .returned (.tuple #[.string (ltx P n), .bool (als P n)]) ∧ Below v.heap.size v w') := fun v hv => letters_any P n cap ao K v (HT1.out.grow hv) (HL1.out.grow hv)
      cases ha : als P n with
      | false =>
        have hz : zok P n K = false := by unfold zok; rw [ha, Bool.and_false]
        rw [hz, zfd_no hz]
        rw [ha] at C2
        subst hK
        clear hz hr
        go_enter Tryd.func15, Tryd.ntmps15
        go_wp2_with (first | rw [← E1.out])
        refine Calls.mono (Hid.out C1) ?_; rintro e w2 ⟨rfl, b2⟩
        have B2 : Hid (Below w.heap.size w w2) := B1.out.trans (b2.mono B1.out.size)
        have HC2 : Hid _ := two_below HC.out b2 s1
        have C2' : Hid _ := C2.out w2 b2
        clear b2 C1 c0 c1 E1 C2
        have c0 := HC2.out.1
        have c1 := HC2.out.2
        go_wp2_with fail
        refine Calls.mono (Hid.out C2') ?_; rintro e w3 ⟨rfl, b3⟩
        have B3 : Hid (Below w.heap.size w w3) := B2.out.trans (b3.mono B2.out.size)
        clear b3 C2' c0 c1
        go_wp2_with fail
        go_ret2
        exact told2_nil B3.out
      | true =>
        have hz : zok P n K = true := by unfold zok; rw [ha, hr, decide_eq_true hK]; rfl
        have hsz := ltx_size ha
        obtain ⟨_, h64, _, _⟩ := rgt_len hr
        rw [hz, zfd_yes hz]
        rw [ha] at C2
        have C3 : Hid _ := fun (v : World) => find09_any (ltx P n) t (by omega) ht v
        obtain ⟨L, hL⟩ : ∃ L, fdl (ltx P n) t = L := ⟨_, rfl⟩
        obtain ⟨u, hu⟩ : ∃ u, ltx P n = u := ⟨_, rfl⟩
        rw [hL] at C3 ⊢
        rw [hu] at C2 C3
        subst hK
        clear hz hr hL hu hsz
        go_enter Tryd.func15, Tryd.ntmps15
        go_wp2_with (first | rw [← E1.out])
        refine Calls.mono (Hid.out C1) ?_; rintro e w2 ⟨rfl, b2⟩
        have B2 : Hid (Below w.heap.size w w2) := B1.out.trans (b2.mono B1.out.size)
        have HC2 : Hid _ := two_below HC.out b2 s1
        have C2' : Hid _ := C2.out w2 b2
        clear b2 C1 c0 c1 E1 C2
        have c0 := HC2.out.1
        have c1 := HC2.out.2
        go_wp2_with fail
        refine Calls.mono (Hid.out C2') ?_; rintro e w3 ⟨rfl, b3⟩
        have B3 : Hid (Below w.heap.size w w3) := B2.out.trans (b3.mono B2.out.size)
        clear b3 C2' c0 c1
        go_wp2_with fail
        refine Calls.mono (C3.out _) ?_; rintro e w4 ⟨⟨bo, d, rfl, hi, _⟩, b4⟩
        have HF : Hid (Told2 w L true (.returned (.tuple #[.slice bo L.length d, .bool true])) w4) := ⟨⟨bo, d, rfl, hi⟩, B3.out.trans (b4.mono B3.out.size)⟩
        clear b4 hi C3
        go_wp2_with fail
        go_ret2
        exact HF.out
    · have hz : zok P n K = false := by unfold zok; rw [decide_eq_false hK, Bool.and_false, Bool.false_and]
      rw [hz, zfd_no hz]
      have hKB : (K == 0) = false := by simpa using hK
      clear hz hr
      go_enter Tryd.func15, Tryd.ntmps15
      go_wp2_with (first | rw [← E1.out])
      refine Calls.mono (Hid.out C1) ?_; rintro e w2 ⟨rfl, b2⟩
      have B2 : Hid (Below w.heap.size w w2) := B1.out.trans (b2.mono B1.out.size)
      have HC2 : Hid _ := two_below HC.out b2 s1
      clear b2 C1 c0 c1 E1
      have c1 := HC2.out.2
      go_wp2_with fail
      go_ret2
      exact told2_nil B2.out

set_option maxHeartbeats 2000000 in
theorem refLeaf09_any (P : Nat → Nat → Bool) (n cap : Nat) (ao : Option Addr) (K : Int) (t : ByteArray) (ht : t.size ≤ 1000000) (w : World) (hl : Lf w ao n P) :
    Calls Tryd.prog 16 #[.agg #[.slice ao n cap, .int .i64 K], .string t] w (Told2 w (zfd P n K t) (zok P n K)) := by
  obtain ⟨w1, b1⟩ := lbox w (.slice ao n cap) (.int .i64 K)
  have E1 : Hid _ := b1.eq
  have B1 : Hid (Below w.heap.size w w1) := b1.bel
  have s1 : w.heap.size < w1.heap.size := by have := b1.size; omega
  have HC : Hid (w1.cell? ⟨w.heap.size, 0, none⟩ = some (.slice ao n cap) ∧ w1.cell? ⟨w.heap.size, 1, none⟩ = some (.int .i64 K)) := ⟨b1.c0, b1.c1⟩
  have c0 := HC.out.1
  have c1 := HC.out.2
  have HL1 : Hid (Lf w1 ao n P) := hl.grow b1.bel
  have C1 : Hid _ := refLetters_any P n cap ao K w1 HL1.out
  have C2 : Hid (∀ v, Below w1.heap.size w1 v → Calls Tryd.prog 25 #[.agg #[.slice ao n cap, .int .i64 K]] v fun e w' => e = .returned (.bool (rgt P n K)) ∧ Below v.heap.size v w') := fun v hv => refRight_any P n cap ao K v (HL1.out.grow hv)
  clear b1 hl
  obtain ⟨u, hu⟩ : ∃ u, ltx P n = u := ⟨_, rfl⟩
  cases ha : als P n with
  | false =>
    have hz : zok P n K = false := by unfold zok; rw [ha, Bool.and_false]
    rw [hz, zfd_no hz]
    rw [ha, hu] at C1
    clear hz C2 ha hu
    go_enter Tryd.func16, Tryd.ntmps16
    go_wp2_with (first | rw [← E1.out])
    refine Calls.mono (Hid.out C1) ?_; rintro e w2 ⟨rfl, b2⟩
    have B2 : Hid (Below w.heap.size w w2) := B1.out.trans (b2.mono B1.out.size)
    clear b2 C1 c0 c1 E1
    go_wp2_with fail
    go_ret2
    exact told2_nil B2.out
  | true =>
    rw [ha, hu] at C1
    cases hr : rgt P n K with
    | false =>
      have hz : zok P n K = false := by unfold zok; rw [hr]; rfl
      rw [hz, zfd_no hz]
      rw [hr] at C2
      clear hz ha hr hu
      go_enter Tryd.func16, Tryd.ntmps16
      go_wp2_with (first | rw [← E1.out])
      refine Calls.mono (Hid.out C1) ?_; rintro e w2 ⟨rfl, b2⟩
      have B2 : Hid (Below w.heap.size w w2) := B1.out.trans (b2.mono B1.out.size)
      have HC2 : Hid _ := two_below HC.out b2 s1
      have C2' : Hid _ := C2.out w2 b2
      clear b2 C1 c0 c1 E1 C2
      have c0 := HC2.out.1
      have c1 := HC2.out.2
      go_wp2_with fail
      refine Calls.mono (Hid.out C2') ?_; rintro e w3 ⟨rfl, b3⟩
      have B3 : Hid (Below w.heap.size w w3) := B2.out.trans (b3.mono B2.out.size)
      clear b3 C2' c0 c1
      go_wp2_with fail
      go_ret2
      exact told2_nil B3.out
    | true =>
      rw [hr] at C2
      by_cases hK : K = 0
      · have hz : zok P n K = true := by unfold zok; rw [ha, hr, decide_eq_true hK]; rfl
        have hsz := ltx_size ha
        obtain ⟨_, h64, _, _⟩ := rgt_len hr
        rw [hz, zfd_yes hz]
        have C3 : Hid _ := fun (v : World) => refFind09_any (ltx P n) t (by omega) ht v
        obtain ⟨L, hL⟩ : ∃ L, fdl (ltx P n) t = L := ⟨_, rfl⟩
        rw [hL] at C3 ⊢
        rw [hu] at C3
        subst hK
        clear hz hr hL hu hsz
        go_enter Tryd.func16, Tryd.ntmps16
        go_wp2_with (first | rw [← E1.out])
        refine Calls.mono (Hid.out C1) ?_; rintro e w2 ⟨rfl, b2⟩
        have B2 : Hid (Below w.heap.size w w2) := B1.out.trans (b2.mono B1.out.size)
        have HC2 : Hid _ := two_below HC.out b2 s1
        have s2 : w.heap.size < w2.heap.size := Nat.lt_of_lt_of_le s1 b2.size
        have C2' : Hid _ := C2.out w2 b2
        clear b2 C1 c0 c1 E1 C2
        have c0 := HC2.out.1
        have c1 := HC2.out.2
        go_wp2_with fail
        refine Calls.mono (Hid.out C2') ?_; rintro e w3 ⟨rfl, b3⟩
        have B3 : Hid (Below w.heap.size w w3) := B2.out.trans (b3.mono B2.out.size)
        have HC3 : Hid _ := two_below HC2.out b3 s2
        clear b3 C2' c0 c1
        have c1 := HC3.out.2
        go_wp2_with fail
        refine Calls.mono (C3.out _) ?_; rintro e w4 ⟨⟨bo, d, rfl, hi, _⟩, b4⟩
        have HF : Hid (Told2 w L true (.returned (.tuple #[.slice bo L.length d, .bool true])) w4) := ⟨⟨bo, d, rfl, hi⟩, B3.out.trans (b4.mono B3.out.size)⟩
        clear b4 hi C3
        go_wp2_with fail
        go_ret2
        exact HF.out
      · have hz : zok P n K = false := by unfold zok; rw [decide_eq_false hK, Bool.and_false, Bool.false_and]
        rw [hz, zfd_no hz]
        have hKB : (K == 0) = false := by simpa using hK
        clear hz hr ha hu
        go_enter Tryd.func16, Tryd.ntmps16
        go_wp2_with (first | rw [← E1.out])
        refine Calls.mono (Hid.out C1) ?_; rintro e w2 ⟨rfl, b2⟩
        have B2 : Hid (Below w.heap.size w w2) := B1.out.trans (b2.mono B1.out.size)
        have HC2 : Hid _ := two_below HC.out b2 s1
        have s2 : w.heap.size < w2.heap.size := Nat.lt_of_lt_of_le s1 b2.size
        have C2' : Hid _ := C2.out w2 b2
        clear b2 C1 c0 c1 E1 C2
        have c0 := HC2.out.1
        have c1 := HC2.out.2
        go_wp2_with fail
        refine Calls.mono (Hid.out C2') ?_; rintro e w3 ⟨rfl, b3⟩
        have B3 : Hid (Below w.heap.size w w3) := B2.out.trans (b3.mono B2.out.size)
        have HC3 : Hid _ := two_below HC2.out b3 s2
        clear b3 C2' c0 c1
        have c1 := HC3.out.2
        go_wp2_with fail
        go_ret2
        exact told2_nil B3.out

end Cls
end Go.Proofs.YtgdjllfolfiboaaDoor
