/- Contracts of symb.Counts, symb.Find. -/
import Derived.Test.YtppmmobmoanagaaDoorSyItr
import Derived.Test.YtppmmobmoanagaaDoorSyRep
import Derived.Test.YtppmmobmoanagaaDoorTold5
import Derived.Test.YtppmmobmoanagaaDoorBlkA
import Derived.Test.YtppmmobmoanagaaDoorLfA
namespace Go.Proofs.YtppmmobmoanagaaDoor
open Go.RowKit Go.Shelf Res
namespace Cls

/-- What is left of the counts, so many kinds taken off. -/
def rest (P : Nat → Nat → Bool) (s : ByteArray) (n : Nat) (pre : List (Nat → Bool)) (i : Nat) : Int := (bnd P n : Int) - hs P s i n pre

theorem hs_le (P : Nat → Nat → Bool) (s : ByteArray) (i m : Nat) (hm : m ≤ 64) (L : List (Nat → Bool)) : 0 ≤ hs P s i m L ∧ hs P s i m L ≤ 64 * (L.length : Int) := by
  induction L with
  | nil => rw [hs_nil]; simp
  | cons c L ih =>
    have := hk_le P s i c m
    show 0 ≤ hk P s i c m + hs P s i m L ∧ hk P s i c m + hs P s i m L ≤ 64 * ((L.length + 1 : Nat) : Int)
    omega

theorem rest_le (P : Nat → Nat → Bool) (s : ByteArray) (n : Nat) (hn : n ≤ 64) (pre : List (Nat → Bool)) (hp : pre.length ≤ 64) (i : Nat) : -5000 ≤ rest P s n pre i ∧ rest P s n pre i ≤ 5000 := by
  have h1 := hs_le P s i n hn pre
  have h2 := bnd_le P n
  unfold rest
  omega

theorem rest_snoc (P : Nat → Nat → Bool) (s : ByteArray) (n : Nat) (pre : List (Nat → Bool)) (c : Nat → Bool) (i : Nat) : rest P s n (pre ++ [c]) i = rest P s n pre i - hk P s i c n := by
  unfold rest
  rw [hs_snoc]
  omega

theorem rest_nil (P : Nat → Nat → Bool) (s : ByteArray) (n : Nat) (i : Nat) : rest P s n [] i = (bnd P n : Int) := by
  unfold rest
  rw [hs_nil]
  omega

/-- All kinds taken off, what is left is what is missed. -/
theorem rest_all (P : Nat → Nat → Bool) (s : ByteArray) (n : Nat) (i : Nat) : rest P s n (kd P n) i = ((mis P s i n : Nat) : Int) := by
  unfold rest
  rw [hs_kinds']
  omega

/-- Rows of unlike numbers lie apart. -/
theorem ri_apart {w : World} {g N b o n : Nat} {F G : Nat → Int} (h : Ri w g N F) (hf : Fam w b o n G) (hn : 1 ≤ n) : b ≠ g := fun e => by
  subst e
  have h1 := hf 0 (by omega)
  obtain ⟨cur, hg, hs, hc⟩ := h.row
  unfold World.cell? at h1
  rw [hg] at h1
  simp only [Nat.add_zero] at h1
  have h2 : cur[o]? = some (.int .u64 (G 0)) := h1
  by_cases ho : o < N
  · rw [hc o ho] at h2
    cases h2
  · rw [Array.getElem?_eq_none (by omega)] at h2
    cases h2

set_option maxRecDepth 100000 in
set_option maxHeartbeats 4000000 in
theorem counts11_early (P : Nat → Nat → Bool) (n cap : Nat) (ao : Option Addr) (K z : Int) (s : ByteArray) (w : World) (hl : Lf w ao n P) (hno : se P n K s.size z ≠ 0 ∨ s.size < n) :
    Calls Tryd.prog 16 #[.agg #[.slice ao n cap, .int .i64 K], .string s, .int .i64 z] w fun e w' => e = .returned (.tuple #[.slice none 0 0, .int .i64 0, .int .i64 (se P n K s.size z)]) ∧ Below w.heap.size w w' := by
  obtain ⟨w1, b1⟩ := lbox w (.slice ao n cap) (.int .i64 K)
  obtain ⟨w2, e2⟩ : ∃ w2, w2 = w1.alloc (.cells #[.int .i64 z] 3) := ⟨_, rfl⟩
  have x2 : Boxed w2 w1.heap.size 3 (.int .i64 z) := by rw [e2]; exact Boxed.new w1 _ _
  have b2 : Below w1.heap.size w1 w2 := by rw [e2]; exact (Below.refl _ _).alloc (Nat.le_refl _) _
  have s1 : w.heap.size < w1.heap.size := by have := b1.size; omega
  have HC : Hid (w2.cell? ⟨w.heap.size, 0, none⟩ = some (.slice ao n cap) ∧ w2.cell? ⟨w.heap.size, 1, none⟩ = some (.int .i64 K)) := two_below ⟨b1.c0, b1.c1⟩ b2 s1
  have c0 := HC.out.1
  have c1 := HC.out.2
  have HS : Hid (w.heap.size + 1 = w1.heap.size) := b1.size.symm
  have HZ : Hid (w2.cell? ⟨w1.heap.size, 0, none⟩ = some (.int .i64 z)) := x2.cell
  have E1 : Hid _ := b1.eq
  have E2 : Hid _ := e2
  have B2 : Hid (Below w.heap.size w w2) := b1.bel.trans (b2.mono b1.bel.size)
  have cc : Hid _ := right_any P n cap ao K w2 (hl.grow B2.out)
  have hn := hl.small
  have s2 : w1.heap.size < w2.heap.size := x2.lt
  clear b1 b2 e2 x2 hl
  cases hr : rgt P n K with
  | false =>
    rw [se_form hr]
    rw [hr] at cc
    clear hr hno
    go_enter Tryd.func16, Tryd.ntmps16
    go_wp2_with (first | rw [← E1.out, ← E2.out, HS.out])
    refine Calls.mono (Hid.out cc) ?_; rintro e w3 ⟨rfl, b3⟩
    have B3 : Hid (Below w.heap.size w w3) := B2.out.trans (b3.mono B2.out.size)
    clear b3 cc c0 c1 E1 E2 HS
    go_wp2_with fail
    refine bodyPost_ret (results_tmp3 rfl _ _ _) rfl ?_
    exact ⟨rfl, B3.out⟩
  | true =>
    rw [hr] at cc
    obtain ⟨h1, h64, _, _⟩ := rgt_len hr
    by_cases hm : s.size < n
    · rw [se_ok hr (.inl hm)]
      have hmI : (s.size : Int) < (n : Int) := by omega
      clear hr hno
      go_enter Tryd.func16, Tryd.ntmps16
      go_wp2_with (first | rw [← E1.out, ← E2.out, HS.out])
      refine Calls.mono (Hid.out cc) ?_; rintro e w3 ⟨rfl, b3⟩
      have B3 : Hid (Below w.heap.size w w3) := B2.out.trans (b3.mono B2.out.size)
      have d := two_below HC.out b3 (by omega)
      obtain ⟨d0, d1⟩ := d
      clear b3 cc c0 c1 E1 E2 HS
      go_wp2_with fail
      refine bodyPost_ret (results_tmp3 rfl _ _ _) rfl ?_
      exact ⟨rfl, B3.out⟩
    · have hz : szb n z = false := by
        cases hz : szb n z with
        | false => rfl
        | true => exact absurd hno (fun h => h.elim (fun h => h (se_ok hr (.inr hz))) hm)
      rw [se_size hr (by omega) hz]
      have hmI : ¬ (s.size : Int) < (n : Int) := by omega
      have cn : Hid _ := fun v => count_any n s.size z v
      rw [(ct_zero (n := n) (m := s.size) (z := z) h1 (by omega)).2 hz] at cn
      clear hr hno hz
      go_enter Tryd.func16, Tryd.ntmps16
      go_wp2_with (first | rw [← E1.out, ← E2.out, HS.out])
      refine Calls.mono (Hid.out cc) ?_; rintro e w3 ⟨rfl, b3⟩
      have B3 : Hid (Below w.heap.size w w3) := B2.out.trans (b3.mono B2.out.size)
      obtain ⟨d0, d1⟩ := two_below HC.out b3 (by omega)
      have d2 : w3.cell? ⟨w1.heap.size, 0, none⟩ = some (.int .i64 z) := (b3.cell (p := ⟨w1.heap.size, 0, none⟩) s2).trans HZ.out
      clear b3 cc c0 c1 E1 E2 HS
      go_wp2_with fail
      refine Calls.mono (cn.out _) ?_; rintro e w' ⟨rfl, hw'⟩; subst w'
      go_wp2_with fail
      refine bodyPost_ret (results_tmp3 rfl _ _ _) rfl ?_
      exact ⟨rfl, B3.out⟩

set_option maxRecDepth 100000 in
set_option maxHeartbeats 4000000 in
theorem counts11_yes (P : Nat → Nat → Bool) (n cap : Nat) (ao : Option Addr) (K z : Int) (s : ByteArray) (hs : s.size ≤ 1000000) (w : World) (hA : Tab w) (hl : Lf w ao n P) (hr : rgt P n K = true) (hm : n ≤ s.size) (hz : szb n z = true) :
    Calls Tryd.prog 16 #[.agg #[.slice ao n cap, .int .i64 K], .string s, .int .i64 z] w fun e w' => (∃ g, e = .returned (.tuple #[.slice (some ⟨g, 0, none⟩) (s.size - n + 1) (s.size - n + 1), .int .i64 (((kd P n).length : Int) * ct n s.size z), .int .i64 0]) ∧ Ri w' g (s.size - n + 1) (rest P s n (kd P n))) ∧ Below w.heap.size w w' := by
  obtain ⟨w1, b1⟩ := lbox w (.slice ao n cap) (.int .i64 K)
  obtain ⟨w2, e2⟩ : ∃ w2, w2 = w1.alloc (.cells #[.int .i64 z] 3) := ⟨_, rfl⟩
  have x2 : Boxed w2 w1.heap.size 3 (.int .i64 z) := by rw [e2]; exact Boxed.new w1 _ _
  have b2 : Below w1.heap.size w1 w2 := by rw [e2]; exact (Below.refl _ _).alloc (Nat.le_refl _) _
  have s1 : w.heap.size < w1.heap.size := by have := b1.size; omega
  have HC : Hid (w2.cell? ⟨w.heap.size, 0, none⟩ = some (.slice ao n cap) ∧ w2.cell? ⟨w.heap.size, 1, none⟩ = some (.int .i64 K)) := two_below ⟨b1.c0, b1.c1⟩ b2 s1
  have c0 := HC.out.1
  have c1 := HC.out.2
  have HS : Hid (w.heap.size + 1 = w1.heap.size) := b1.size.symm
  have HZ : Hid (w2.cell? ⟨w1.heap.size, 0, none⟩ = some (.int .i64 z)) := x2.cell
  have E1 : Hid _ := b1.eq
  have E2 : Hid _ := e2
  have B2 : Hid (Below w.heap.size w w2) := b1.bel.trans (b2.mono b1.bel.size)
  have HL2 : Hid (Lf w2 ao n P) := hl.grow B2.out
  have HA2 : Hid (Tab w2) := hA.below B2.out (tab_lt hA)
  have cc : Hid _ := right_any P n cap ao K w2 HL2.out
  have hn := hl.small
  have s2 : w1.heap.size < w2.heap.size := x2.lt
  obtain ⟨h1, h64, _, _⟩ := rgt_len hr
  rw [hr] at cc
  have cn : Hid _ := fun v => count_any n s.size z v
  have hct0 : ct n s.size z ≠ 0 := fun h => by rw [(ct_zero (n := n) (m := s.size) (z := z) h1 hm).1 h] at hz; cases hz
  obtain ⟨ct0, ct1⟩ := ct_small11 (n := n) (m := s.size) (z := z)
  have hmI : ¬ (s.size : Int) < (n : Int) := by omega
  have HSQ : Hid _ := (sq_le (m := s.size) (z := z) hr).2
  have HBM : Hid _ := fun (A B : Nat → Int) hA hB => (bc_marks (n := n) (m := s.size) (z := z) h1 (by omega) hm A B hA hB).1 hz
  obtain ⟨C, hC⟩ : ∃ C, ct n s.size z = C := ⟨_, rfl⟩
  rw [hC] at cn hct0 ct0 ct1 HSQ HBM ⊢
  have hC0 : (C == 0) = false := by simpa using hct0
  obtain ⟨N, hN⟩ : ∃ N, s.size - n + 1 = N := ⟨_, rfl⟩
  rw [hN]
  have hNI : (s.size : Int) - (n : Int) + 1 = (N : Int) := by omega
  have hN1 : 1 ≤ N ∧ N ≤ 1000001 := by omega
  have hw1 : IntKind.i64.wrap ((s.size : Int) - (n : Int)) = (s.size : Int) - (n : Int) := by rw [IntKind.wrap_i64]; omega
  have hw2 : IntKind.i64.wrap ((s.size : Int) - (n : Int) + 1) = (N : Int) := by rw [hNI, IntKind.wrap_i64]; omega
  clear b1 b2 e2 x2 hl hr hz hct0 hC
  refine (callsIn_wide (n := 9)).1 (callsIn_of_wp_marks Tryd.func16 rfl trivial ?_ rfl)
  refine wpIn_wide.2 ?_
  simp only [Tryd.ntmps16, List.size_toArray, List.length_cons, List.length_nil, Nat.reduceAdd, Nat.reduceSub, Array.replicate_succ, Array.replicate_zero, List.push_toArray, List.append_toArray, List.nil_append, List.cons_append]
  go_wp2_with (first | rw [← E1.out, ← E2.out, HS.out])
  refine Calls.mono (Hid.out cc) ?_; rintro e w3 ⟨rfl, b3⟩
  have B3 : Hid (Below w2.heap.size w2 w3) := b3
  obtain ⟨d0, d1⟩ := two_below HC.out b3 (by omega)
  have d2 : w3.cell? ⟨w1.heap.size, 0, none⟩ = some (.int .i64 z) := (b3.cell (p := ⟨w1.heap.size, 0, none⟩) s2).trans HZ.out
  have cb : Hid _ := bound_any P n cap ao K w3 (HL2.out.grow b3)
  clear b3 cc c0 c1 E1 E2 HS
  go_wp2_with fail
  refine Calls.mono (cn.out _) ?_; rintro e w' ⟨rfl, hw'⟩; subst w'
  go_wp2_with fail
  refine Calls.mono (Hid.out cb) ?_; rintro e w4 ⟨rfl, b4⟩
  have B4 : Hid (Below w2.heap.size w2 w4) := B3.out.trans (b4.mono B3.out.size)
  obtain ⟨d0, d1⟩ := two_below HC.out B4.out (by omega)
  obtain ⟨w5, e5⟩ : ∃ w5, w5 = w4.alloc (.cells #[.int .i64 ((bnd P n : Nat) : Int)] 3) := ⟨_, rfl⟩
  have x5 : Boxed w5 w4.heap.size 3 (.int .i64 ((bnd P n : Nat) : Int)) := by rw [e5]; exact Boxed.new w4 _ _
  have b5 : Below w4.heap.size w4 w5 := by rw [e5]; exact (Below.refl _ _).alloc (Nat.le_refl _) _
  have B5 : Hid (Below w2.heap.size w2 w5) := B4.out.trans (b5.mono B4.out.size)
  have E5 : Hid _ := e5
  have cq : Hid _ := fun cap => repeat_any ((bnd P n : Nat) : Int) w4.heap.size N cap hN1.1 hN1.2 w5 x5.cell
  clear b4 b5 e5 x5 cb cn
  go_wp2_with (first | rw [← E5.out])
  refine Calls.mono (cq.out _) ?_; rintro e w6 ⟨g, rfl, r6, hg6, b6⟩
  have R6 : Hid (Ri w6 g N (fun _ => ((bnd P n : Nat) : Int))) := r6
  have B6 : Hid (Below w2.heap.size w2 w6) := B5.out.trans (b6.mono B5.out.size)
  obtain ⟨wa, ea⟩ : ∃ wa, wa = w6.alloc (.cells #[.slice (some ⟨g, 0, none⟩) N N] 35) := ⟨_, rfl⟩
  obtain ⟨w7, e7⟩ : ∃ w7, w7 = wa.alloc (.cells #[.int .i64 0] 3) := ⟨_, rfl⟩
  have xa : Boxed wa w6.heap.size 35 (.slice (some ⟨g, 0, none⟩) N N) := by rw [ea]; exact Boxed.new w6 _ _
  have x7 : Boxed w7 wa.heap.size 3 (.int .i64 0) := by rw [e7]; exact Boxed.new wa _ _
  have ba : Below w6.heap.size w6 wa := by rw [ea]; exact (Below.refl _ _).alloc (Nat.le_refl _) _
  have b7 : Below wa.heap.size wa w7 := by rw [e7]; exact (Below.refl _ _).alloc (Nat.le_refl _) _
  have za : wa.heap.size = w6.heap.size + 1 := by rw [ea, World.size_alloc]
  have z7 : w7.heap.size = wa.heap.size + 1 := by rw [e7, World.size_alloc]
  have b67 : Below w6.heap.size w6 w7 := ba.trans (b7.mono (by omega))
  have B7 : Hid (Below w2.heap.size w2 w7) := B6.out.trans (b67.mono B6.out.size)
  have HLT : Hid (w5.heap.size ≤ g ∧ g < w6.heap.size ∧ wa.heap.size = w6.heap.size + 1 ∧ w7.heap.size = wa.heap.size + 1 ∧ w2.heap.size ≤ w5.heap.size ∧ w6.heap.size < wa.heap.size ∧ wa.heap.size < w7.heap.size) := ⟨hg6, r6.lt, za, z7, B5.out.size, by omega, by omega⟩
  have R7 : Hid (Ri w7 g N (fun _ => ((bnd P n : Nat) : Int))) := R6.out.grow b67
  have XB : Hid (Boxed w7 w6.heap.size 35 (.slice (some ⟨g, 0, none⟩) N N)) := (b7.block _ (by omega)).trans xa
  have XT : Hid (Boxed w7 wa.heap.size 3 (.int .i64 0)) := x7
  have EA : Hid _ := ea
  have E7 : Hid _ := e7
  obtain ⟨d0, d1⟩ := two_below HC.out B7.out (by omega)
  have ck : Hid _ := kindRows_made n cap ao P K s w7 (HL2.out.grow B7.out)
  clear cq E5 r6 b6 xa x7 ba b7 b67 ea e7
  have d0r : ((w6.alloc (.cells #[.slice (some ⟨g, 0, none⟩) N N] 35)).alloc (.cells #[.int .i64 0] 3)).cell? ⟨w.heap.size, 0, none⟩ = some (.slice ao n cap) := by rw [← EA.out, ← E7.out]; exact d0
  have d1r : ((w6.alloc (.cells #[.slice (some ⟨g, 0, none⟩) N N] 35)).alloc (.cells #[.int .i64 0] 3)).cell? ⟨w.heap.size, 1, none⟩ = some (.int .i64 K) := by rw [← EA.out, ← E7.out]; exact d1
  go_wp2_with fail
  rw [← EA.out, ← E7.out]
  refine Calls.mono (Hid.out ck) ?_; rintro e w8 ⟨rfl, c8, b8⟩
  have e7 : w7.heap.size = w6.heap.size + 1 + 1 := by have := HLT.out; omega
  have ea' : wa.heap.size = w6.heap.size + 1 := HLT.out.2.2.1
  rw [e7] at c8
  have HL8 := HLT.out
  have lt7 : w6.heap.size < w7.heap.size ∧ w6.heap.size + 1 < w7.heap.size ∧ g < w7.heap.size := by omega
  have R8 : Hid (Ri w8 g N (fun _ => ((bnd P n : Nat) : Int))) := R7.out.grow b8
  have XB8 : Hid (Boxed w8 w6.heap.size 35 (.slice (some ⟨g, 0, none⟩) N N)) := (b8.block _ lt7.1).trans XB.out
  have XT8 : Hid (Boxed w8 (w6.heap.size + 1) 3 (.int .i64 0)) := (b8.block _ lt7.2.1).trans (by have := XT.out; rw [ea'] at this; exact this)
  have B8 : Hid (Below w2.heap.size w2 w8) := B7.out.trans (b8.mono B7.out.size)
  have HG : Hid (w2.heap.size ≤ g ∧ g < w6.heap.size ∧ w6.heap.size + 1 + 1 ≤ w8.heap.size) := ⟨by omega, by omega, by have := b8.size; omega⟩
  have HAo : Hid (∀ k, (1 ≤ n ∧ ∃ o, ao = some ⟨k, o, none⟩) → k < w2.heap.size) := fun k ⟨h1, o, e⟩ => by
    obtain ⟨b, o', e', hlt, _⟩ := HL2.out.lies h1
    rw [e'] at e
    cases e
    exact hlt
  have hpr : 0 < w2.heap.size := tab_lt HA2.out
  have TA8 : Hid (Tab w8) := HA2.out.below B8.out hpr
  have Z8 : Hid (w8.cell? ⟨w1.heap.size, 0, none⟩ = some (.int .i64 z)) := (B8.out.cell (p := ⟨w1.heap.size, 0, none⟩) s2).trans HZ.out
  clear d0r d1r ck EA E7 b8 R7 XB XT e7 ea' HL8 lt7
  generalize w6.heap.size = q at *
  go_wp2_with fail
  refine (wpIn_wide (n := 9)).1 ?_
  have hseq := kindRows_seq (q + 1 + 1) (q + 1 + 1 + 1) n cap ao P K s hs (by omega) w8 c8
  have hkn := kinds_le P n
  have hq1 := HG.out.2.2
  have hq2 := HG.out.2.1
  have hq3 := HG.out.1
  refine' wp_seqE (gf := 58) rfl (enters_of Tryd.func58 (by kernel_rfl) rfl) hseq (enk_abid P n s) (fun _ _ _ ⟨_, _, e, _⟩ => by rw [e]; rfl) (fun k h => c8.lt h)
    (fun pre M W => (Ri W g N (rest P s n pre) ∧ ¬ M g) ∧ (Boxed W q 35 (.slice (some ⟨g, 0, none⟩) N N) ∧ ¬ M q) ∧ (Boxed W (q + 1) 3 (.int .i64 ((pre.length : Int) * C)) ∧ ¬ M (q + 1)) ∧ Below g w8 W)
    (fun _ _ _ _ => False) ?abid (fun c s M M' W W' h _ _ => h) ?start
    (fun vs => { tmps := #[.agg #[.slice ao n cap, .int .i64 K], .string s, .int .i64 z, .pointer (some ⟨w.heap.size, 0, none⟩), undef, .pointer (some ⟨w1.heap.size, 0, none⟩), .slice none 0 0, .int .i64 0, .int .i64 0, .int .i64 (n : Int), .int .i64 (s.size : Int), .pointer (some ⟨q, 0, none⟩), .pointer (some ⟨q + 1, 0, none⟩), vs.getD 0 undef, vs.getD 1 undef, undef, undef, undef, undef, undef, .agg #[.slice ao n cap, .int .i64 K], .bool true, .bool false, .pointer (some ⟨w.heap.size, 0, none⟩), .slice ao n cap, .int .i64 (n : Int), .string s, .int .i64 (s.size : Int), .int .i64 (n : Int), .int .i64 (s.size : Int), .bool false, .int .i64 (n : Int), .int .i64 (s.size : Int), .int .i64 z, .int .i64 C, .bool false, .agg #[.slice ao n cap, .int .i64 K], .int .i64 ((bnd P n : Nat) : Int), .slice (some ⟨w4.heap.size, 0, none⟩) 1 1, .int .i64 (s.size : Int), .int .i64 (n : Int), .int .i64 ((s.size : Int) - (n : Int)), .int .i64 (N : Int), .slice (some ⟨g, 0, none⟩) N N, .agg #[.slice ao n cap, .int .i64 K], .string s, .func (.func 58) #[] #[.pointer (some ⟨q + 1 + 1, 0, none⟩), .pointer (some ⟨q + 1 + 1 + 1, 0, none⟩)], vs.getD 0 undef, vs.getD 1 undef, undef, undef, undef, undef, undef, undef, undef, undef, undef, undef, undef, undef, undef, undef, undef, undef, undef, undef, undef, undef, undef, undef, undef, undef, undef, undef, undef, undef, undef], defers := [] }) ?assign ?body ?done ?stop
  case abid => exact (Abid.own g (fun (pre : List (Nat → Bool)) W => Ri W g N (rest P s n pre)) (fun _ _ _ h e => h.block e) (fun _ _ h => h.lt)).and ((boxed_abid _ _ _ _).and ((Abid.own (q + 1) (fun (pre : List (Nat → Bool)) W => Boxed W (q + 1) 3 (.int .i64 ((pre.length : Int) * C))) (fun _ _ _ h e => e.trans h) (fun _ _ h => h.lt)).and (Abid.below (by omega) (by omega))))
  case start =>
    have na : ∀ k, g ≤ k → k < q + 1 + 1 → ¬ Blk2 (q + 1 + 1) (q + 1 + 1 + 1) ao n k := fun k h1 h2 h => by
      rcases h with h | h | h
      · omega
      · omega
      · have := HAo.out k h; omega
    exact ⟨⟨R8.out.congr (fun t _ => (rest_nil P s n t).symm), na g (Nat.le_refl _) (by omega)⟩, ⟨XB8.out, na q (by omega) (by omega)⟩, ⟨by have := XT8.out; simpa using this, na (q + 1) (by omega) (by omega)⟩, Below.refl _ _⟩
  case assign =>
    rintro l' x' vs W' K' ⟨p, h, rfl, _⟩ hK
    clear hseq
    gi_wp2
    exact hK
  case stop => exact fun _ _ _ _ _ _ h _ => h.elim
  case done =>
    rintro D V hD ⟨⟨hr, _⟩, ⟨hxb, _⟩, ⟨hxt, _⟩, hb⟩ hK
    have HK : Hid (V.heap[D]? = some (.deferred (some []))) := hK
    have HR : Hid (Ri V g N (rest P s n (kd P n))) := hr
    have HB : Hid (Below g w8 V) := hb
    have x0 := hxb.cell
    have x1 := hxt.cell
    clear hseq hr hb hK hxb hxt
    go_wp2_with fail
    go_quiet (fail)
    go_wp2_with fail
    have hKd : (V.drewN nq).heap[D]? = some (.deferred (some [])) := HK.out
    refine ⟨by simp, .inl ⟨_, _, rfl, run_takeDeferred hKd, ?_⟩⟩
    refine ⟨_, results_tmp3 rfl _ _ _, ⟨g, rfl, ?_⟩, ?_⟩
    · exact (HR.out.block (w' := V.drewN nq) rfl).block (World.putObj_heap_other (by omega))
    · have h1 : Below w.heap.size w w8 := B2.out.trans (B8.out.mono B2.out.size)
      have h2 : Below w.heap.size w8 (V.drewN nq) := below_drewN (HB.out.mono (by have := B2.out.size; omega)) nq
      exact (h1.trans h2).trans (belowK_b (w := w8) (by have := B2.out.size; omega) _ _ _ _ hD hKd rfl rfl)
  case body =>
    rintro lp pre M c vs V ⟨p, h, rfl, fp, fh⟩ ⟨⟨hr, hMg⟩, ⟨hxb, hMq⟩, ⟨hxt, hMt⟩, hb⟩ hMV hp
    have hpl : pre.length + 1 ≤ (kd P n).length := by have := hp.length_le; simpa using this
    have TV : Tab V := TA8.out.below hb (by omega)
    have zc : V.cell? ⟨w1.heap.size, 0, none⟩ = some (.int .i64 z) := (hb.cell (p := ⟨w1.heap.size, 0, none⟩) (by show w1.heap.size < g; omega)).trans Z8.out
    have hb1 : ∀ b : Bool, (b.toNat : Int) ≤ 18446744073709551615 := fun b => by have := bool_le b; omega
    have cq : Hid _ := bcor_any (some ⟨p, 0, none⟩) (some ⟨h, 0, none⟩) n s.size n s.size z (by omega) hs (Nat.le_refl _) (kp P c) (km s c) (fun t => (bool_le _).1) (fun t => (bool_le _).1) (fun t => hb1 _) (fun t => hb1 _) V TV (fun _ => ⟨p, 0, rfl, fp⟩) (fun _ => ⟨h, 0, rfl, fh⟩)
    obtain ⟨e0, e1, e2⟩ := HBM.out (kp P c) (km s c) (fun t => (bool_le _).2) (fun t => (bool_le _).2)
    rw [e0, e1, e2, hN] at cq
    have HV : Hid (Ri V g N (rest P s n pre)) := hr
    have HXB : Hid (Boxed V q 35 (.slice (some ⟨g, 0, none⟩) N N)) := hxb
    have HXT : Hid (Boxed V (q + 1) 3 (.int .i64 ((pre.length : Int) * C))) := hxt
    have HBV : Hid (Below g w8 V) := hb
    have HM3 : Hid (¬ M g ∧ ¬ M q ∧ ¬ M (q + 1)) := ⟨hMg, hMq, hMt⟩
    have HMV : Hid (∀ k, M k → k < V.heap.size) := hMV
    have hrl := fun i => rest_le P s n h64 pre (by omega) i
    have hkl := fun i => hk_le P s i c n
    have HSN : Hid _ := rest_snoc P s n pre c
    have hq4 : q + 1 + 1 ≤ V.heap.size := Nat.le_trans hq1 hb.size
    obtain ⟨t0, t1⟩ := HSQ.out pre.length (by omega)
    obtain ⟨t2, t3⟩ := HSQ.out (pre.length + 1) hpl
    have ht : ((pre.length + 1 : Nat) : Int) * C = (pre.length : Int) * C + C := by rw [Int.natCast_add, Int.add_mul]; simp
    rw [ht] at t2 t3
    have HT : Hid (((pre ++ [c]).length : Int) * C = (pre.length : Int) * C + C) := by show _ = _; rw [← ht]; simp
    clear hseq hr hxb hxt hb hMg hMq hMt hMV hp fp fh TV e0 e1 e2 ht
    generalize (pre.length : Int) * C = T at *
    gi_wp2_with fail
    refine ⟨trivial, CallsIn.inRound lp (callsIn_wide.2 (Calls.mono (Hid.out cq) ?_))⟩
    rintro e v1 ⟨so, sc, rfl, ls, b1⟩
    obtain ⟨b0, o0, rfl, fs⟩ := ls (by omega)
    have R1 : Hid (Ri v1 g N (rest P s n pre)) := HV.out.grow b1
    have hne := ri_apart R1.out fs hN1.1
    have FS : Hid (Fam v1 b0 o0 N (fun i => hk P s i c n)) := fs
    have BV1 : Hid (Below V.heap.size V v1) := b1
    have XB1 : Hid (Boxed v1 q 35 (.slice (some ⟨g, 0, none⟩) N N)) := (b1.block _ (by omega)).trans HXB.out
    have XT1 : Hid (Boxed v1 (q + 1) 3 (.int .i64 T)) := (b1.block _ (by omega)).trans HXT.out
    have hq5 : q + 1 + 1 ≤ v1.heap.size := Nat.le_trans hq4 b1.size
    have hb0 : b0 < v1.heap.size := fs.lt (by omega)
    clear cq ls fs b1 zc HV HXB HXT
    gi_wp2_with fail
    gi_loopw [59] (fun vk wr => ∃ k : Nat, k ≤ N ∧ vk = .int .i64 (k : Int) ∧ Ri wr g N (mix k (rest P s n (pre ++ [c])) (rest P s n pre)) ∧ Fr (fun j => j ≠ g) v1 wr) (fun vk _ => N - (intOf vk).toNat)
    case atStart => exact ⟨0, Nat.zero_le _, rfl, by rw [mix_zero]; exact R1.out, Fr.refl _ _⟩
    case round =>
      obtain ⟨k, hkk, rfl, hR, hF⟩ := hrel
      have HRr : Hid _ := hR
      have HFr : Hid (Fr (fun j => j ≠ g) v1 wr) := hF
      by_cases hkN : k < N
      · have hkI : (k : Int) < (N : Int) := by omega
        have xb0 : Boxed wr q 35 (.slice (some ⟨g, 0, none⟩) N N) := (hF.block q (by omega) (by omega)).trans XB1.out
        have xb := xb0.cell
        have fc : wr.cell? ⟨b0, o0 + k, none⟩ = some (.int .u64 (hk P s k c n)) := (hF.cell (p := ⟨b0, o0 + k, none⟩) hne hb0).trans ((show Fam v1 b0 o0 N (fun i => hk P s i c n) from FS.out) k hkN)
        have rc := hR.cell hkN
        rw [mix_hi (Nat.le_refl k)] at rc
        have rf := hR.frozen k
        obtain ⟨g0, g1⟩ := hrl k
        obtain ⟨g2, g3⟩ := hkl k
        have HP : Hid (Ri (wr.setCell ⟨g, k, none⟩ (.int .i64 (rest P s n pre k - hk P s k c n))) g N (mix (k + 1) (rest P s n (pre ++ [c])) (rest P s n pre))) := (hR.put k _).congr (fun t ht => by
          by_cases e : t = k
          · subst e; rw [upd_at, mix_lo (by omega), HSN.out]
          · rw [upd_off e]
            by_cases e2 : t < k
            · rw [mix_lo e2, mix_lo (by omega)]
            · rw [mix_hi (by omega), mix_hi (by omega)])
        have HF2 : Hid (Fr (fun j => j ≠ g) v1 (wr.setCell ⟨g, k, none⟩ (.int .i64 (rest P s n pre k - hk P s k c n)))) := hF.setCell (by simp) _
        clear hR hF hrl hkl xb0
        generalize rest P s n pre k = x at *
        generalize hk P s k c n = y at *
        gi_wp2_with fail
        go_roundw
        case rel => exact ⟨k + 1, by omega, by go_num, HP.out, HF2.out⟩
        case measure => simp [intOf]; omega
      · obtain rfl : k = N := by omega
        have xt : Boxed wr (q + 1) 3 (.int .i64 T) := (hF.block (q + 1) (by omega) (by omega)).trans XT1.out
        have xtc := xt.cell
        have xtf := xt.frozen
        have HRn : Hid (Ri wr g k (rest P s n (pre ++ [c]))) := hR.congr (fun t ht => mix_lo ht)
        have HXTn : Hid (Boxed wr (q + 1) 3 (.int .i64 T)) := xt
        have HXBn : Hid (Boxed wr q 35 (.slice (some ⟨g, 0, none⟩) k k)) := (hF.block q (by omega) (by omega)).trans XB1.out
        clear hR hF xt hrl hkl
        gi_wp2_with fail
        have hvg : g ≤ v1.heap.size := by omega
        have bW : Below g v1 (wr.setCell ⟨q + 1, 0, none⟩ (.int .i64 (T + C))) := (HFr.out.below hvg (fun j hj => by show j ≠ g; omega)).setCell (by show g ≤ q + 1; omega) _
        have eT : ((pre ++ [c]).length : Int) * C = T + C := HT.out
        refine ⟨?_, ⟨HRn.out.block (Below.heap_setCell _ _ _ g (by show g ≠ q + 1; omega)), HM3.out.1⟩, ⟨HXBn.out.other (by omega) _, HM3.out.2.1⟩, ⟨by rw [eT]; exact HXTn.out.set _, HM3.out.2.2⟩, (HBV.out.trans (BV1.out.mono (by omega))).trans bW⟩
        exact ((Fr.of_below BV1.out (fun _ hk _ => hk)).trans (HFr.out.mono (fun j _ hM e => HM3.out.1 (e ▸ hM)))).setCell HM3.out.2.2 _

/-- What it tells, whatever the input. -/
theorem counts11_any (P : Nat → Nat → Bool) (n cap : Nat) (ao : Option Addr) (K z : Int) (s : ByteArray) (hs : s.size ≤ 1000000) (w : World) (hA : Tab w) (hl : Lf w ao n P) :
    Calls Tryd.prog 16 #[.agg #[.slice ao n cap, .int .i64 K], .string s, .int .i64 z] w (Told5 w (sc P n K s z) (sq P n K s.size z) (se P n K s.size z)) := by
  by_cases hno : se P n K s.size z ≠ 0 ∨ s.size < n
  · refine Calls.mono (counts11_early P n cap ao K z s w hl hno) ?_
    rintro e w' ⟨rfl, hb⟩
    by_cases he : se P n K s.size z = 0
    · have hm : s.size < n := hno.resolve_left (fun h => h he)
      obtain ⟨hr, _⟩ := se_rgt he
      have h1 : sc P n K s z = [] := by
        rw [sc_ok he]
        refine List.length_eq_zero_iff.1 ?_
        rw [cts_len, stn_no (fun h => by omega)]
      have h2 : sq P n K s.size z = 0 := by
        rw [sq_ok he, ct_no (fun h => by omega), Int.mul_zero]
      rw [h1, h2]
      exact told5_nil hb
    · rw [sc_no he, sq_no he]
      exact told5_nil hb
  · have he : se P n K s.size z = 0 := by
      by_cases h : se P n K s.size z = 0
      · exact h
      · exact absurd (.inl h) hno
    have hm : n ≤ s.size := by omega
    obtain ⟨hr, hz⟩ := se_rgt he
    have hz' : szb n z = true := hz.resolve_left (by omega)
    refine Calls.mono (counts11_yes P n cap ao K z s hs w hA hl hr hm hz') ?_
    rintro e w' ⟨⟨g, rfl, hR⟩, hb⟩
    have hL : (sc P n K s z).length = s.size - n + 1 := by rw [sc_ok he, cts_len, stn_yes hr hm]
    rw [sq_ok he, he]
    refine ⟨⟨some ⟨g, 0, none⟩, s.size - n + 1, by rw [hL], ?_⟩, hb⟩
    rw [← hL] at hR
    refine hR.is (fun t ht => ?_)
    have h1 : (sc P n K s z)[t] = mis P s t n := by
      have h2 : (cts P n K s)[t]? = some (mis P s t n) := by
        have h3 : t < (cts P n K s).length := by rw [← sc_ok he]; exact ht
        rw [List.getElem?_eq_getElem h3, cts_at]
      rw [← sc_ok he (z := z), List.getElem?_eq_getElem ht] at h2
      exact Option.some.inj h2
    rw [h1, rest_all]

set_option maxHeartbeats 2000000 in
theorem find11_any (P : Nat → Nat → Bool) (n cap : Nat) (ao : Option Addr) (K z : Int) (s : ByteArray) (hs : s.size ≤ 1000000) (w : World) (hA : Tab w) (hl : Lf w ao n P) :
    Calls Tryd.prog 19 #[.agg #[.slice ao n cap, .int .i64 K], .string s, .int .i64 z] w (Told5 w (sf P n K s z) (sq P n K s.size z) (se P n K s.size z)) := by
  obtain ⟨w1, b1⟩ := lbox w (.slice ao n cap) (.int .i64 K)
  have E1 : Hid _ := b1.eq
  have B1 : Hid (Below w.heap.size w w1) := b1.bel
  have s1 : w.heap.size < w1.heap.size := by have := b1.size; omega
  have HC : Hid (w1.cell? ⟨w.heap.size, 0, none⟩ = some (.slice ao n cap) ∧ w1.cell? ⟨w.heap.size, 1, none⟩ = some (.int .i64 K)) := ⟨b1.c0, b1.c1⟩
  have c0 := HC.out.1
  have c1 := HC.out.2
  have cc : Hid _ := counts11_any P n cap ao K z s hs w1 (hA.below b1.bel (tab_lt hA)) (hl.grow b1.bel)
  have HF : Hid _ := sf_hts P n K s z
  have hlen := sc_len P n K s z
  by_cases he : se P n K s.size z = 0
  · obtain ⟨L, hL⟩ : ∃ L, sc P n K s z = L := ⟨_, rfl⟩
    rw [hL] at cc HF hlen
    have hh : Hid (∀ (v : World) (bo : Option Addr) (d : Nat), Is v bo L → Calls Tryd.prog 41 #[.slice bo L.length d, .int .i64 K] v (Told v (sf P n K s z))) := fun v bo d hi => by rw [HF.out]; exact hits_any _ K L.length d bo (by omega) v hi.ir
    rw [he] at cc ⊢
    generalize sf P n K s z = G at *
    generalize sq P n K s.size z = Q at *
    obtain ⟨m, hm⟩ : ∃ m, L.length = m := ⟨_, rfl⟩
    have hh' : Hid (∀ (v : World) (bo : Option Addr) (d : Nat), Is v bo L → Calls Tryd.prog 41 #[.slice bo m d, .int .i64 K] v (Told v G)) := fun v bo d hi => by rw [← hm]; exact hh.out v bo d hi
    have cc' : Hid (Calls Tryd.prog 16 #[.agg #[.slice ao n cap, .int .i64 K], .string s, .int .i64 z] w1 fun e w' => (∃ bo d, e = .returned (.tuple #[.slice bo m d, .int .i64 Q, .int .i64 0]) ∧ Is w' bo L) ∧ Below w1.heap.size w1 w') := Calls.mono cc.out (fun e w' h => by rw [← hm]; exact h)
    clear b1 hl hA hL cc hh hlen HF hm he
    go_enter Tryd.func19, Tryd.ntmps19
    go_wp2_with (first | rw [← E1.out])
    refine Calls.mono (Hid.out cc') ?_; rintro e w2 ⟨⟨bo, d, rfl, i2⟩, b2⟩
    have B2 : Hid (Below w.heap.size w w2) := B1.out.trans (b2.mono B1.out.size)
    have c2 : Hid _ := hh'.out w2 bo d i2
    obtain ⟨d0, d1⟩ := two_below HC.out b2 s1
    clear b2 cc' c0 c1 E1 i2 hh'
    go_wp2_with fail
    refine Calls.mono (Hid.out c2) ?_; rintro e w3 ⟨⟨bo3, d3, rfl, i3, _⟩, b3⟩
    have HT : Hid (Told5 w G Q 0 (.returned (.tuple #[.slice bo3 G.length d3, .int .i64 Q, .int .i64 0])) w3) := ⟨⟨_, _, rfl, i3⟩, B2.out.trans (b3.mono B2.out.size)⟩
    clear b3 i3 c2 d0 d1
    go_wp2_with fail
    refine bodyPost_ret (results_tmp3 rfl _ _ _) rfl ?_
    exact HT.out
  · rw [sc_no he, sq_no he] at cc
    rw [sf_no he, sq_no he]
    obtain ⟨C, hC⟩ : ∃ C, se P n K s.size z = C := ⟨_, rfl⟩
    rw [hC] at cc he ⊢
    have hC0 : (C == 0) = false := by simpa using he
    have cc' : Hid (Calls Tryd.prog 16 #[.agg #[.slice ao n cap, .int .i64 K], .string s, .int .i64 z] w1 fun e w' => (∃ bo d, e = .returned (.tuple #[.slice bo 0 d, .int .i64 0, .int .i64 C])) ∧ Below w1.heap.size w1 w') := Calls.mono cc.out (fun e w' ⟨⟨bo, d, h, _⟩, hb⟩ => ⟨⟨bo, d, h⟩, hb⟩)
    clear b1 hl hA cc hlen HF hC
    go_enter Tryd.func19, Tryd.ntmps19
    go_wp2_with (first | rw [← E1.out])
    refine Calls.mono (Hid.out cc') ?_; rintro e w2 ⟨⟨bo, d, rfl⟩, b2⟩
    have B2 : Hid (Below w.heap.size w w2) := B1.out.trans (b2.mono B1.out.size)
    clear b2 cc' c0 c1 E1
    go_wp2_with fail
    refine bodyPost_ret (results_tmp3 rfl _ _ _) rfl ?_
    exact told5_nil B2.out

end Cls
end Go.Proofs.YtppmmobmoanagaaDoor
