/- Contract of conv.School, of any rows. -/
import Derived.Test.YtcppcfbcgopmoaaDoorConvProd
namespace Go.Proofs.YtcppcfbcgopmoaaDoor
open Go.RowKit Res

/-- What is told: N numbers, F's, and an error's number. -/
def Told (w : World) (N : Nat) (F : Nat → Int) (c : Int) (e : Ending) (w' : World) : Prop :=
  ∃ ao cap, e = .returned (.tuple #[.slice ao N cap, .int .i64 c]) ∧ Lies w' ao N F ∧ Below w.heap.size w w'
theorem Told.nil {w w' : World} {F : Nat → Int} {c : Int} {N : Nat} (hN : N = 0) (hb : Below w.heap.size w w') : Told w N F c (.returned (.tuple #[.slice none 0 0, .int .i64 c])) w' := by
  subst hN
  exact ⟨_, _, rfl, fun h => by omega, hb⟩
theorem Told.row {w w' : World} {F : Nat → Int} {c : Int} {N M g cap : Nat} (hN : N = M) (hf : Fam w' g 0 M F) (hb : Below w.heap.size w w') : Told w N F c (.returned (.tuple #[.slice (some ⟨g, 0, none⟩) M cap, .int .i64 c])) w' := by
  subst hN
  exact ⟨_, _, rfl, fun _ => ⟨g, 0, rfl, hf⟩, hb⟩

/-- A box that holds a slice. -/
structure BoxS (w v : World) (x : Value) (ty : TypeId) : Prop where
  eq : v = w.alloc (.cells #[x] ty)
  cell : v.cell? ⟨w.heap.size, 0, none⟩ = some x
  bel : Below w.heap.size w v
  size : w.heap.size < v.heap.size
theorem boxS (w : World) (x : Value) (ty : TypeId) : ∃ v, BoxS w v x ty :=
  ⟨_, rfl, by simp, (Below.refl _ _).alloc (Nat.le_refl _) _, by rw [size_alloc]; omega⟩

set_option maxHeartbeats 1000000 in
theorem school_any (ao bo : Option Addr) (n m ca cb : Nat) (hn : n ≤ 1152921504606846976) (hm : m ≤ 1152921504606846976) (A B : Nat → Int) (hA0 : ∀ t, 0 ≤ A t) (hB0 : ∀ t, 0 ≤ B t) (hA : ∀ t, A t ≤ 18446744073709551615) (hB : ∀ t, B t ≤ 18446744073709551615) (w : World) (la : Lies w ao n A) (lb : Lies w bo m B) :
    Calls Tryd.prog 16 #[.slice ao n ca, .slice bo m cb] w fun e w' => Told w (ln n m A B) (cv n m A B) (ec n m A B) e w' := by
  obtain ⟨w1, x1⟩ := boxS w (.slice ao n ca) 22
  have E1 : Hid _ := x1.eq
  have B1 : Hid _ := x1.bel
  have hs1 := x1.size
  have hc1 := x1.cell
  by_cases hno : n = 0 ∨ m = 0
  · rw [ec_none hno]
    have hln := ln_none (A := A) (B := B) hno
    have HL : Hid _ := hln
    clear hln la lb x1
    by_cases hn0 : n = 0
    · subst hn0
      clear hno
      go_enter Tryd.func16, Tryd.ntmps16
      go_wp2_with fail
      go_ret2
      rw [← E1.out]
      exact Told.nil HL.out B1.out
    · obtain rfl : m = 0 := by omega
      have hd : ((n : Int) == 0) = false := beq_eq_false_iff_ne.2 (by omega)
      clear hno
      go_enter Tryd.func16, Tryd.ntmps16
      go_wp2_with fail
      go_ret2
      rw [← E1.out]
      exact Told.nil HL.out B1.out
  have la1 : Lies w1 ao n A := la.below x1.bel (Nat.le_refl _)
  have lb1 : Lies w1 bo m B := lb.below x1.bel (Nat.le_refl _)
  have h1 : 1 ≤ n := by omega
  have h2 : 1 ≤ m := by omega
  have c1 : Hid _ := errorOf_any ao bo n m ca cb h1 h2 hn hm A B hA hB w1 la1 lb1
  rw [ec_some hno]
  have hd : ((n : Int) == 0) = false := beq_eq_false_iff_ne.2 (by omega)
  have hd2 : ((m : Int) == 0) = false := beq_eq_false_iff_ne.2 (by omega)
  by_cases hok : er n m (gr n A) (gr m B) = 0
  · have c2 : Hid _ := productOf_straight w.heap.size ao bo n m ca cb (n + m - 1) h1 h2 (by omega) (er_zero hok).1 A B A (fun _ _ => rfl) hA0 hB0 (cv_fits hA0 hB0 hok) w1 hc1 la1 lb1
    have HL : Hid _ := ln_ok hno hok
    rw [hok] at c1 ⊢
    clear la lb x1 la1 lb1 hok hno hA hB hA0 hB0
    go_enter Tryd.func16, Tryd.ntmps16
    go_wp2_with fail
    rw [← E1.out]
    refine Calls.mono (Hid.out c1) ?_; rintro e w' ⟨rfl, hw'⟩; subst w'
    go_wp2_with fail
    refine Calls.mono (Hid.out c2) ?_; rintro e w2 ⟨rfl, h3, h4, h5⟩
    have F2 : Hid _ := h4
    have B2 : Hid (Below w.heap.size w w2) := B1.out.trans (h5.mono (by omega))
    clear h4 h5
    go_wp2_with fail
    go_ret2
    exact Told.row HL.out F2.out B2.out
  · have HL : Hid _ := ln_no hno hok
    have hok' : (er n m (gr n A) (gr m B) == 0) = false := beq_eq_false_iff_ne.2 hok
    clear la lb x1 la1 lb1 hno hA hB hA0 hB0
    generalize er n m (gr n A) (gr m B) = E at *
    go_enter Tryd.func16, Tryd.ntmps16
    go_wp2_with fail
    rw [← E1.out]
    refine Calls.mono (Hid.out c1) ?_; rintro e w' ⟨rfl, hw'⟩; subst w'
    go_wp2_with fail
    go_ret2
    exact Told.nil HL.out B1.out
end Go.Proofs.YtcppcfbcgopmoaaDoor
