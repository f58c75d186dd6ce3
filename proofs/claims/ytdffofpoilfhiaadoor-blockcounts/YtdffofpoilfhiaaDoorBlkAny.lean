/- Contracts of block.Correlate and of the document's, of any rows and any size: all outcomes at once. -/
import Derived.Test.YtdffofpoilfhiaaDoorBlkCor
import Derived.Test.YtdffofpoilfhiaaDoorConvLaw
namespace Go.Proofs.YtdffofpoilfhiaaDoor
open Go.RowKit Res

/-- What is told: N numbers F, how many transforms, the error. -/
def Told3 (w : World) (N : Nat) (F : Nat → Int) (q c : Int) (e : Ending) (w' : World) : Prop :=
  ∃ ao cap, e = .returned (.tuple #[.slice ao N cap, .int .i64 q, .int .i64 c]) ∧ Lies w' ao N F ∧ Below w.heap.size w w'

/-- The same, and that the slice has room for its numbers. -/
def Told4 (w : World) (N : Nat) (F : Nat → Int) (q c : Int) (e : Ending) (w' : World) : Prop :=
  ∃ ao cap, e = .returned (.tuple #[.slice ao N cap, .int .i64 q, .int .i64 c]) ∧ Lies w' ao N F ∧ Below w.heap.size w w' ∧ N ≤ cap
theorem Told4.less {w w' : World} {N : Nat} {F : Nat → Int} {q c : Int} {e : Ending} (h : Told4 w N F q c e w') : Told3 w N F q c e w' :=
  let ⟨ao, cap, he, hl, hb, _⟩ := h; ⟨ao, cap, he, hl, hb⟩

set_option maxRecDepth 100000 in
set_option maxHeartbeats 2000000 in
theorem bcor_none (ao bo : Option Addr) (n m ca cb : Nat) (s : Int) (hn : n ≤ 1000000) (hm : m ≤ 1000000) (hno : n = 0 ∨ m < n) (P T : Nat → Int) (hP1 : ∀ t, P t ≤ 18446744073709551615) (hT1 : ∀ t, T t ≤ 18446744073709551615) (w : World) (la : Lies w ao n P) (lb : Lies w bo m T) :
    Calls Tryd.prog 18 #[.slice ao n ca, .slice bo m cb, .int .i64 s] w fun e w' => e = .returned (.tuple #[.slice none 0 0, .int .i64 0, .int .i64 0]) ∧ Below w.heap.size w w' := by
  obtain ⟨w1, x1⟩ := boxS w (.slice bo m cb) 22
  obtain ⟨w2, x2⟩ := boxS w1 (.int .i64 s) 3
  have z1 : w.heap.size + 1 = w1.heap.size := by rw [x1.eq, size_alloc]
  have b2 : Below w.heap.size w w2 := x1.bel.trans (x2.bel.mono (by omega))
  have c1 : Hid _ := bcheck_any ao bo n m ca cb s (by omega) (by omega) P T hP1 hT1 w2 (la.below b2 (Nat.le_refl _)) (lb.below b2 (Nat.le_refl _))
  rw [bc_none hno] at c1
  have E1 : Hid _ := x1.eq
  have E2 : Hid _ := x2.eq
  have Z1 : Hid _ := z1
  have ct2 : w2.cell? ⟨w.heap.size, 0, none⟩ = some (.slice bo m cb) := (x2.bel.cell (p := ⟨w.heap.size, 0, none⟩) x1.size).trans x1.cell
  have y1 : w.heap.size < w1.heap.size := x1.size
  have y2 : w1.heap.size < w2.heap.size := x2.size
  obtain ⟨w3, e3⟩ : ∃ w3, w3 = (w2.alloc (.cells #[.int .i64 (n : Int)] 3)).drew := ⟨_, rfl⟩
  have E3 : Hid _ := e3
  have b3 : Below w2.heap.size w2 w3 := by rw [e3]; exact ((Below.refl _ _).alloc (Nat.le_refl _) _).drew
  have y3 : w2.heap.size < w3.heap.size := by rw [e3]; show _ < (w2.alloc _).heap.size; rw [size_alloc]; omega
  have cm3 : w3.cell? ⟨w2.heap.size, 0, none⟩ = some (.int .i64 (n : Int)) := by rw [e3]; exact (Boxed.new w2 3 (.int .i64 (n : Int))).cell
  have B03 : Hid (Below w.heap.size w w3) := b2.trans (b3.mono (by omega))
  have c2 : Hid _ := slides_no n m (by omega) w3
  clear z1 x1 x2 e3 b3 b2 la lb hno
  go_enter Tryd.func18, Tryd.ntmps18
  go_wp2_with fail
  rw [← E1.out, ← E2.out, Z1.out]
  refine Calls.mono (Hid.out c1) ?_; rintro e w' ⟨rfl, hw'⟩; subst w'
  clear E1 E2 Z1 c1
  generalize w1.heap.size = B1 at *
  go_wp2_with fail
  have nn : w2.heap.size ≠ w.heap.size := by omega
  go_region_held3 (fun w' => w'.cell? ⟨w.heap.size, 0, none⟩ = some (.slice bo m cb)) (go_keep) (fail)
  rw [← E3.out]
  clear E3 nn
  generalize w2.heap.size = B2 at *
  go_wp2_with fail
  refine Calls.mono (Hid.out c2) ?_; rintro e w' ⟨rfl, hw'⟩; subst w'
  go_wp2_with fail
  refine bodyPost_ret (results_tmp3 rfl _ _ _) rfl ?_
  exact ⟨rfl, B03.out⟩

set_option maxRecDepth 100000 in
set_option maxHeartbeats 2000000 in
theorem bcor_err (ao bo : Option Addr) (n m ca cb : Nat) (s C : Int) (hn : n ≤ 1000000) (hm : m ≤ 1000000) (P T : Nat → Int) (hC : bc n m P T s = C) (hC0 : ¬ C = 0) (hP1 : ∀ t, P t ≤ 18446744073709551615) (hT1 : ∀ t, T t ≤ 18446744073709551615) (w : World) (la : Lies w ao n P) (lb : Lies w bo m T) :
    Calls Tryd.prog 18 #[.slice ao n ca, .slice bo m cb, .int .i64 s] w fun e w' => e = .returned (.tuple #[.slice none 0 0, .int .i64 0, .int .i64 C]) ∧ Below w.heap.size w w' := by
  obtain ⟨w1, x1⟩ := boxS w (.slice bo m cb) 22
  obtain ⟨w2, x2⟩ := boxS w1 (.int .i64 s) 3
  have z1 : w.heap.size + 1 = w1.heap.size := by rw [x1.eq, size_alloc]
  have b2 : Below w.heap.size w w2 := x1.bel.trans (x2.bel.mono (by omega))
  have c1 : Hid _ := bcheck_any ao bo n m ca cb s (by omega) (by omega) P T hP1 hT1 w2 (la.below b2 (Nat.le_refl _)) (lb.below b2 (Nat.le_refl _))
  rw [hC] at c1
  have E1 : Hid _ := x1.eq
  have E2 : Hid _ := x2.eq
  have Z1 : Hid _ := z1
  have B02 : Hid (Below w.heap.size w w2) := b2
  clear z1 x1 x2 b2 la lb hC
  go_enter Tryd.func18, Tryd.ntmps18
  go_wp2_with fail
  rw [← E1.out, ← E2.out, Z1.out]
  refine Calls.mono (Hid.out c1) ?_; rintro e w' ⟨rfl, hw'⟩; subst w'
  clear E1 E2 Z1 c1
  go_wp2_with fail
  refine bodyPost_ret (results_tmp3 rfl _ _ _) rfl ?_
  exact ⟨rfl, B02.out⟩

theorem bcor_room (ao bo : Option Addr) (n m ca cb : Nat) (s : Int) (hn : n ≤ 1000000) (hm : m ≤ 1000000) (hcb : m ≤ cb) (P T : Nat → Int) (hP0 : ∀ t, 0 ≤ P t) (hT0 : ∀ t, 0 ≤ T t) (hP1 : ∀ t, P t ≤ 18446744073709551615) (hT1 : ∀ t, T t ≤ 18446744073709551615) (w : World) (hT : Tab w) (la : Lies w ao n P) (lb : Lies w bo m T) :
    Calls Tryd.prog 18 #[.slice ao n ca, .slice bo m cb, .int .i64 s] w fun e w' => Told4 w (bl n m P T s) (cr n P T) (bq n m P T s) (bc n m P T s) e w' := by
  by_cases hno : n = 0 ∨ m < n
  · rw [bl_none hno, bq_none hno, bc_none hno]
    exact (bcor_none ao bo n m ca cb s hn hm hno P T hP1 hT1 w la lb).mono fun e w' ⟨he, hb⟩ => ⟨none, 0, he, fun h => by omega, hb, Nat.le_refl _⟩
  · by_cases hc : bc n m P T s = 0
    · have hz : szb n s = true := by
        cases h : szb n s with
        | true => rfl
        | false => rw [bc_size hno h] at hc; cases hc
      have hok : ¬ 18446744073709551616 ≤ gr n P * gr m T * (n : Int) := fun h => by rw [bc_big hno hz h] at hc; cases hc
      rw [bl_ok hno hc, bq_ok hc, hc]
      obtain ⟨l, hl, hs, hms⟩ := szb_yes hz
      obtain ⟨pb, pof, rfl, fp⟩ := la (by omega)
      obtain ⟨tb, tof, rfl, ft⟩ := lb (by omega)
      obtain ⟨S, hS⟩ : ∃ S : Nat, S = 2 ^ l := ⟨_, rfl⟩
      have hsI : s = (S : Int) := by rw [hs, hS, Int.natCast_pow]; rfl
      subst hsI
      exact (bcor_row pb pof tb tof n m ca cb l S (by omega) (by omega) hm hS hl (by omega) hcb P T hP0 hT0 hP1 hT1 hok w hT fp ft).mono fun e w' ⟨g, cap, he, hf, hb, hc⟩ => ⟨_, _, he, fun _ => ⟨g, 0, rfl, hf⟩, hb, hc⟩
    · rw [bl_no hc, bq_no hc]
      exact (bcor_err ao bo n m ca cb s _ hn hm P T rfl hc hP1 hT1 w la lb).mono fun e w' ⟨he, hb⟩ => ⟨none, 0, he, fun h => by omega, hb, Nat.le_refl _⟩

theorem bcor_any (ao bo : Option Addr) (n m ca cb : Nat) (s : Int) (hn : n ≤ 1000000) (hm : m ≤ 1000000) (hcb : m ≤ cb) (P T : Nat → Int) (hP0 : ∀ t, 0 ≤ P t) (hT0 : ∀ t, 0 ≤ T t) (hP1 : ∀ t, P t ≤ 18446744073709551615) (hT1 : ∀ t, T t ≤ 18446744073709551615) (w : World) (hT : Tab w) (la : Lies w ao n P) (lb : Lies w bo m T) :
    Calls Tryd.prog 18 #[.slice ao n ca, .slice bo m cb, .int .i64 s] w fun e w' => Told3 w (bl n m P T s) (cr n P T) (bq n m P T s) (bc n m P T s) e w' :=
  (bcor_room ao bo n m ca cb s hn hm hcb P T hP0 hT0 hP1 hT1 w hT la lb).mono fun _ _ h => h.less

set_option maxHeartbeats 2000000 in
theorem refBcor_any (ao bo : Option Addr) (n m ca cb : Nat) (s : Int) (hn : n ≤ 1000000) (hm : m ≤ 1000000) (P T : Nat → Int) (hP0 : ∀ t, 0 ≤ P t) (hT0 : ∀ t, 0 ≤ T t) (hP1 : ∀ t, P t ≤ 18446744073709551615) (hT1 : ∀ t, T t ≤ 18446744073709551615) (w : World) (la : Lies w ao n P) (lb : Lies w bo m T) :
    Calls Tryd.prog 19 #[.slice ao n ca, .slice bo m cb, .int .i64 s] w fun e w' => Told3 w (bl n m P T s) (cr n P T) (bq n m P T s) (bc n m P T s) e w' := by
  have c1 : Hid _ := refBcheck_any ao bo n m ca cb s (by omega) (by omega) P T hP1 hT1 w la lb
  by_cases hno : n = 0 ∨ m < n
  · rw [bl_none hno, bq_none hno]
    rw [bc_none hno] at c1 ⊢
    have c2 : Hid _ := refSlides_no n m (by omega) w
    clear la lb hno
    go_enter Tryd.func19, Tryd.ntmps19
    go_wp2_with fail
    refine Calls.mono (Hid.out c1) ?_; rintro e w' ⟨rfl, hw'⟩; subst w'
    go_wp2_with fail
    refine Calls.mono (Hid.out c2) ?_; rintro e w' ⟨rfl, hw'⟩; subst w'
    go_wp2_with fail
    refine bodyPost_ret (results_tmp3 rfl _ _ _) rfl ?_
    exact ⟨none, 0, rfl, fun h => by omega, Below.refl _ _⟩
  · by_cases hc : bc n m P T s = 0
    · have hz : szb n s = true := by
        cases h : szb n s with
        | true => rfl
        | false => rw [bc_size hno h] at hc; cases hc
      have hok : ¬ 18446744073709551616 ≤ gr n P * gr m T * (n : Int) := fun h => by rw [bc_big hno hz h] at hc; cases hc
      rw [bl_ok hno hc, bq_ok hc]
      rw [hc] at c1 ⊢
      obtain ⟨pb, pof, rfl, fp⟩ := la (by omega)
      obtain ⟨tb, tof, rfl, ft⟩ := lb (by omega)
      have c2 : Hid _ := refSlides_yes n m (by omega) (by omega) w
      have c3 : Hid _ := slide_any pb pof tb tof n m ca cb (by omega) (by omega) (by omega) P T hP0 hT0 (fun i hi => cr_fits hT0 hok i hi) w fp ft
      have c4 : Hid _ := fun v => refCount_any n m s v
      clear la lb hno hok fp ft
      go_enter Tryd.func19, Tryd.ntmps19
      go_wp2_with fail
      refine Calls.mono (Hid.out c1) ?_; rintro e w' ⟨rfl, hw'⟩; subst w'
      go_wp2_with fail
      refine Calls.mono (Hid.out c2) ?_; rintro e w' ⟨rfl, hw'⟩; subst w'
      go_wp2_with fail
      refine Calls.mono (Hid.out c3) ?_; rintro e w1 ⟨v, rfl, own, b1⟩
      obtain ⟨ao, c, rfl, hl⟩ := own_lies own
      have HL : Hid _ := hl
      have HB : Hid _ := b1
      clear own hl b1 c3
      go_wp2_with fail
      refine Calls.mono (c4.out w1) ?_; rintro e w' ⟨rfl, hw'⟩; subst w'
      go_wp2_with fail
      refine bodyPost_ret (results_tmp3 rfl _ _ _) rfl ?_
      exact ⟨_, _, rfl, HL.out, HB.out⟩
    · rw [bl_no hc, bq_no hc]
      obtain ⟨C, hC⟩ : ∃ C, bc n m P T s = C := ⟨_, rfl⟩
      rw [hC] at c1 hc ⊢
      have hC0 : (C == 0) = false := by simpa using hc
      clear la lb hno hC
      go_enter Tryd.func19, Tryd.ntmps19
      go_wp2_with fail
      refine Calls.mono (Hid.out c1) ?_; rintro e w' ⟨rfl, hw'⟩; subst w'
      go_wp2_with fail
      refine bodyPost_ret (results_tmp3 rfl _ _ _) rfl ?_
      exact ⟨none, 0, rfl, fun h => by omega, Below.refl _ _⟩
end Go.Proofs.YtdffofpoilfhiaaDoor
