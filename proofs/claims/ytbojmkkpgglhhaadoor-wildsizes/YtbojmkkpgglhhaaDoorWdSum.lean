/- Contracts of wild.summer, of the closure that it gives, of wild.Sums, wild.places, wild.Find, and of the document's Find. -/
import Derived.Test.YtbojmkkpgglhhaaDoorWdRefS
import Derived.Test.YtbojmkkpgglhhaaDoorBlkA
import Derived.Test.YtbojmkkpgglhhaaDoorNvA
namespace Go.Proofs.YtbojmkkpgglhhaaDoor
open Go.RowKit Res
namespace Cls

theorem tab_grow {w w' : World} (h : Tab w) (hb : Below w.heap.size w w') : Tab w' := h.below hb (tab_lt h)

/-- What hangs on no place, and two rows, each in a box. -/
structure Sb (w : World) (b : Nat) (W : Int) (x y : Value) : Prop where
  lt : b + 1 + 1 < w.heap.size
  c0 : w.cell? ⟨b, 0, none⟩ = some (.int .u64 W)
  c1 : w.cell? ⟨b + 1, 0, none⟩ = some x
  c2 : w.cell? ⟨b + 1 + 1, 0, none⟩ = some y

theorem Sb.grow {w w' : World} {b : Nat} {W : Int} {x y : Value} (h : Sb w b W x y) (hb : Below w.heap.size w w') : Sb w' b W x y := by
  have hl := h.lt
  exact ⟨Nat.lt_of_lt_of_le hl hb.size, (hb.cell (p := ⟨b, 0, none⟩) (by show b < _; omega)).trans h.c0, (hb.cell (p := ⟨b + 1, 0, none⟩) (by show b + 1 < _; omega)).trans h.c1, (hb.cell (p := ⟨b + 1 + 1, 0, none⟩) hl).trans h.c2⟩

theorem sb_new (w : World) (W : Int) (x y : Value) : ∃ v, v = ((w.alloc (.cells #[.int .u64 W] 22)).alloc (.cells #[x] 33)).alloc (.cells #[y] 33) ∧ Sb v w.heap.size W x y ∧ Below w.heap.size w v := by
  have z1 : (w.alloc (.cells #[.int .u64 W] 22)).heap.size = w.heap.size + 1 := size_alloc _ _
  have z2 : ((w.alloc (.cells #[.int .u64 W] 22)).alloc (.cells #[x] 33)).heap.size = w.heap.size + 1 + 1 := by rw [size_alloc, z1]
  have h1 := ((Boxed.new w 22 (.int .u64 W)).alloc (.cells #[x] 33)).alloc (.cells #[y] 33)
  have h2 := (Boxed.new (w.alloc (.cells #[.int .u64 W] 22)) 33 x).alloc (.cells #[y] 33)
  have h3 := Boxed.new ((w.alloc (.cells #[.int .u64 W] 22)).alloc (.cells #[x] 33)) 33 y
  rw [z1] at h2
  rw [z2] at h3
  exact ⟨_, rfl, ⟨by rw [size_alloc, z2]; omega, h1.cell, h2.cell, h3.cell⟩, (((Below.refl _ w).alloc (Nat.le_refl _) _).alloc (by rw [size_alloc]; omega) _).alloc (by rw [z2]; omega) _⟩

set_option maxHeartbeats 400000 in
theorem wsummer_any (W : Int) (oo io : Option Addr) (N c d : Nat) (w : World) :
    Calls Tryd.prog 34 #[.int .u64 W, .slice oo N c, .slice io N d] w fun e w' => e = .returned (.func (.func 58) #[] #[.pointer (some ⟨w.heap.size, 0, none⟩), .pointer (some ⟨w.heap.size + 1, 0, none⟩), .pointer (some ⟨w.heap.size + 1 + 1, 0, none⟩)]) ∧ Sb w' w.heap.size W (.slice oo N c) (.slice io N d) ∧ Below w.heap.size w w' := by
  obtain ⟨v, ev, h1, h2⟩ := sb_new w W (.slice oo N c) (.slice io N d)
  have EV : Hid _ := ev
  have H : Hid _ := And.intro h1 h2
  clear ev h1 h2
  go_enter Tryd.func34, Tryd.ntmps34
  go_wp2_with fail
  rw [← EV.out]
  go_ret
  exact ⟨rfl, H.out⟩

set_option maxHeartbeats 1000000 in
theorem wsumAt_any (b i N c d : Nat) (W : Int) (oo io : Option Addr) (F G : Nat → Int) (hi : i < N) (hN : N ≤ 1000001) (hW : 0 ≤ W) (hF : 0 ≤ F i) (hG : 0 ≤ G i) (hWF : W + F i ≤ 18446744073709551615) (hG2 : 2 * G i ≤ 18446744073709551615) (h0 : 0 ≤ W + F i - 2 * G i) (w : World) (hb : Sb w b W (.slice oo N c) (.slice io N d)) (lf : Lies w oo N F) (lg : Lies w io N G) :
    Calls Tryd.prog 58 #[.int .i64 (i : Int), .pointer (some ⟨b, 0, none⟩), .pointer (some ⟨b + 1, 0, none⟩), .pointer (some ⟨b + 1 + 1, 0, none⟩)] w fun e w' => e = .returned (.int .u64 (W + F i - 2 * G i)) ∧ ∃ q, w' = w.drewN q := by
  obtain ⟨fb, fo, rfl, ff⟩ := lf (by omega)
  obtain ⟨gb, go, rfl, fg⟩ := lg (by omega)
  have k1 := ff i hi
  have k2 := fg i hi
  obtain ⟨_, k3, k4, k5⟩ := hb
  have hiI : (i : Int) < (N : Int) := by omega
  have hi0 : (0 : Int) ≤ (i : Int) := by omega
  clear lf lg ff fg
  generalize F i = f at *
  generalize G i = g at *
  have hg2 : 0 ≤ 2 * g := by omega
  go_enter Tryd.func58, Tryd.ntmps58
  go_wp2_with fail
  go_quiet (fail)
  go_wp2_with fail
  go_ret
  exact ⟨rfl, nq, rfl⟩

/-- The rows of a leaf's values, of a text's, and their squares. -/
def wE (P : Nat → Nat → Bool) (t : Nat) : Int := ((vl (P t) : Nat) : Int)
def wL (s : ByteArray) (t : Nat) : Int := ((byt s t : Nat) : Int) + 1
def wE2 (P : Nat → Nat → Bool) (t : Nat) : Int := wE P t * wE P t
def wL2 (s : ByteArray) (t : Nat) : Int := wL s t * wL s t

theorem wE_in (P : Nat → Nat → Bool) (t : Nat) : 0 ≤ wE P t ∧ wE P t ≤ 256 := by unfold wE; have := vl_le (P t); omega

theorem wL_in (s : ByteArray) (t : Nat) : 0 ≤ wL s t ∧ wL s t ≤ 256 := by unfold wL; have := byt_lt s t; omega

theorem wE2_in (P : Nat → Nat → Bool) (t : Nat) : 0 ≤ wE2 P t ∧ wE2 P t ≤ 65536 := sq_le (wE_in P t).1 (wE_in P t).2

theorem wL2_in (s : ByteArray) (t : Nat) : 0 ≤ wL2 s t ∧ wL2 s t ≤ 65536 := sq_le (wL_in s t).1 (wL_in s t).2

/-- The sums, as they are put together: nothing goes round. -/
theorem ws_fits (P : Nat → Nat → Bool) (s : ByteArray) (n i : Nat) (hn : n ≤ 64) (hi : i + n ≤ s.size) :
    0 ≤ cr n (wE P) (wL2 s) i ∧ 0 ≤ cr n (wE2 P) (wL s) i ∧ wg P n + cr n (wE P) (wL2 s) i ≤ 18446744073709551615 ∧ 2 * cr n (wE2 P) (wL s) i ≤ 18446744073709551615 ∧ 0 ≤ wg P n + cr n (wE P) (wL2 s) i - 2 * cr n (wE2 P) (wL s) i ∧ wg P n + cr n (wE P) (wL2 s) i - 2 * cr n (wE2 P) (wL s) i = ws P s i n := by
  have h1 := cr_nonneg (n := n) (fun t => (wE_in P t).1) (fun t => (wL2_in s t).1) i
  have h2 := cr_nonneg (n := n) (fun t => (wE2_in P t).1) (fun t => (wL_in s t).1) i
  have h3 := cr_le (n := n) (m := s.size) (p := wE P) (t := wL2 s) (X := 256) (Y := 65536) (fun t => (wL2_in s t).1) (by omega) (fun t _ => (wE_in P t).2) (fun t _ => (wL2_in s t).2) i hi
  have h4 := cr_le (n := n) (m := s.size) (p := wE2 P) (t := wL s) (X := 65536) (Y := 256) (fun t => (wL_in s t).1) (by omega) (fun t _ => (wE2_in P t).2) (fun t _ => (wL_in s t).2) i hi
  have h5 := wg_le P n
  have h6 : wg P n + cr n (wE P) (wL2 s) i - 2 * cr n (wE2 P) (wL s) i = ws P s i n := res_cr P s n i
  have h7 := ws_le P s i n
  omega

theorem i64_eq {w w' : World} {N : Nat} {F : Nat → Int} {q r c : Int} {e : Ending} (h : Told3 w N F q c e w') (hq : q = r) : Told3 w N F r c e w' := hq ▸ h

set_option maxRecDepth 4000 in
set_option maxHeartbeats 4000000 in
theorem wsums_any (P : Nat → Nat → Bool) (n cap : Nat) (ao : Option Addr) (K z : Int) (s : ByteArray) (hs : s.size ≤ 1000000) (w : World) (hA : Tab w) (hT : TabB w) (hl : Lf w ao n P) :
    Calls Tryd.prog 15 #[.agg #[.slice ao n cap, .int .i64 K], .string s, .int .i64 z] w (Told3 w (wn P n K s.size z) (fun i => ws P s i n) (wq P n K s.size z) (we P n K s.size z)) := by
  obtain ⟨w1, b1⟩ := lbox w (.slice ao n cap) (.int .i64 K)
  have E1 : Hid _ := b1.eq
  have B1 : Hid (Below w.heap.size w w1) := b1.bel
  have s1 : w.heap.size < w1.heap.size := by have := b1.size; omega
  have HC : Hid (w1.cell? ⟨w.heap.size, 0, none⟩ = some (.slice ao n cap) ∧ w1.cell? ⟨w.heap.size, 1, none⟩ = some (.int .i64 K)) := ⟨b1.c0, b1.c1⟩
  have c0 := HC.out.1
  have c1 := HC.out.2
  have HL1 : Hid (Lf w1 ao n P) := hl.grow b1.bel
  have HT1 : Hid (TabB w1) := hT.grow b1.bel
  have HA1 : Hid (Tab w1) := tab_grow hA b1.bel
  have cc : Hid _ := right_any P n cap ao K w1 HL1.out
  have cp : Hid (∀ v, Below w1.heap.size w1 v → Calls Tryd.prog 30 #[.agg #[.slice ao n cap, .int .i64 K]] v fun e w' => e = .returned (.bool (pln P n)) ∧ Below v.heap.size v w') := fun v hv => plain_any P n cap ao K v (HT1.out.grow hv) (HL1.out.grow hv)
  have hn := hl.small
  clear b1 hl hT hA
  cases hr : rgt P n K with
  | false =>
    have hw : wok P n K = false := by unfold wok; rw [hr]; rfl
    obtain ⟨e1, e2, e3⟩ := we_form (m := s.size) (z := z) hw
    rw [e1, e2, e3]
    rw [hr] at cc
    clear e1 e2 e3 hw hr cp
    go_enter Tryd.func15, Tryd.ntmps15
    go_wp2_with (first | rw [← E1.out])
    refine Calls.mono (Hid.out cc) ?_; rintro e w2 ⟨rfl, b2⟩
    have B2 : Hid (Below w.heap.size w w2) := B1.out.trans (b2.mono B1.out.size)
    clear b2 cc c0 c1 E1
    go_wp2_with fail
    refine bodyPost_ret (results_tmp3 rfl _ _ _) rfl ?_
    exact ⟨none, 0, rfl, fun h => by omega, B2.out⟩
  | true =>
    rw [hr] at cc
    cases hp : pln P n with
    | false =>
      have hw : wok P n K = false := by unfold wok; rw [hr, hp]; rfl
      obtain ⟨e1, e2, e3⟩ := we_form (m := s.size) (z := z) hw
      rw [e1, e2, e3]
      rw [hp] at cp
      clear e1 e2 e3 hw hr hp
      go_enter Tryd.func15, Tryd.ntmps15
      go_wp2_with (first | rw [← E1.out])
      refine Calls.mono (Hid.out cc) ?_; rintro e w2 ⟨rfl, b2⟩
      have B2 : Hid (Below w.heap.size w w2) := B1.out.trans (b2.mono B1.out.size)
      have cp' : Hid _ := cp.out w2 b2
      obtain ⟨d0, d1⟩ := two_below HC.out b2 s1
      clear b2 cc c0 c1 E1 cp
      go_wp2_with fail
      refine Calls.mono (Hid.out cp') ?_; rintro e w3 ⟨rfl, b3⟩
      have B3 : Hid (Below w.heap.size w w3) := B2.out.trans (b3.mono B2.out.size)
      clear b3 cp' d0 d1
      go_wp2_with fail
      refine bodyPost_ret (results_tmp3 rfl _ _ _) rfl ?_
      exact ⟨none, 0, rfl, fun h => by omega, B3.out⟩
    | true =>
      have hw : wok P n K = true := by unfold wok; rw [hr, hp]; rfl
      obtain ⟨h1, h64, _, _⟩ := wok_len hw
      rw [hp] at cp
      obtain ⟨x1, x2, x3⟩ := bc_we (m := s.size) (z := z) hw (wE P) (wL2 s) (fun t => by have := wE_in P t; omega) (fun t => (wL2_in s t).2)
      obtain ⟨y1, y2, y3⟩ := bc_we (m := s.size) (z := z) hw (wE2 P) (wL s) (fun t => (wE2_in P t).2) (fun t => by have := wL_in s t; omega)
      have ce : Hid (∀ v, TabB v → Lf v ao n P → Calls Tryd.prog 28 #[.agg #[.slice ao n cap, .int .i64 K]] v (New v n (wE P))) := fun v h1 h2 => elems_any P n cap ao K (by omega) v h1 h2
      have cv : Hid (∀ v, TabB v → Calls Tryd.prog 31 #[.string s] v (New v s.size (wL s))) := fun v h1 => letvals_any s hs v h1
      have cl2 : Hid (∀ v g, Fam v g 0 s.size (wL s) → Calls Tryd.prog 33 #[.slice (some ⟨g, 0, none⟩) s.size s.size] v (New v s.size (wL2 s))) := fun v g h => squares_any g 0 s.size s.size (wL s) hs (fun t => (wL_in s t).1) (fun t => (wL_in s t).2) v h
      have ce2 : Hid (∀ v g, Fam v g 0 n (wE P) → Calls Tryd.prog 33 #[.slice (some ⟨g, 0, none⟩) n n] v (New v n (wE2 P))) := fun v g h => squares_any g 0 n n (wE P) (by omega) (fun t => (wE_in P t).1) (fun t => (wE_in P t).2) v h
      have cb1 : Hid (∀ v g h, Tab v → Fam v g 0 n (wE P) → Fam v h 0 s.size (wL2 s) → Calls Tryd.prog 32 #[.slice (some ⟨g, 0, none⟩) n n, .slice (some ⟨h, 0, none⟩) s.size s.size, .int .i64 z] v (Told3 v (wn P n K s.size z) (cr n (wE P) (wL2 s)) (bq n s.size (wE P) (wL2 s) z) (we P n K s.size z))) := fun v g h hv hg hh => by
        have := bcor_any (some ⟨g, 0, none⟩) (some ⟨h, 0, none⟩) n s.size n s.size z (by omega) hs (Nat.le_refl _) (wE P) (wL2 s) (fun t => (wE_in P t).1) (fun t => (wL2_in s t).1) (fun t => by have := wE_in P t; omega) (fun t => by have := wL2_in s t; omega) v hv (fun _ => ⟨g, 0, rfl, hg⟩) (fun _ => ⟨h, 0, rfl, hh⟩)
        rw [x1, x2] at this
        exact this
      cases hz : decide (we P n K s.size z = 0) with
      | false =>
        have hz' : ¬ we P n K s.size z = 0 := of_decide_eq_false hz
        have e2 : wn P n K s.size z = 0 := if_neg hz'
        have e3 : wq P n K s.size z = 0 := if_neg hz'
        rw [e2, e3]
        rw [e2] at cb1
        generalize we P n K s.size z = C at *
        generalize bq n s.size (wE P) (wL2 s) z = Q at *
        have hzB : (C == 0) = false := by simpa using hz'
        clear hw hr hp e2 e3 x1 x2 x3 y1 y2 y3 hz ce2
        go_enter Tryd.func15, Tryd.ntmps15
        go_wp2_with (first | rw [← E1.out])
        refine Calls.mono (Hid.out cc) ?_; rintro e w2 ⟨rfl, b2⟩
        have B2 : Hid (Below w1.heap.size w1 w2) := b2
        have cp' : Hid _ := cp.out w2 b2
        obtain ⟨d0, d1⟩ := two_below HC.out b2 s1
        clear b2 cc c0 c1 E1 cp
        go_wp2_with fail
        refine Calls.mono (Hid.out cp') ?_; rintro e w3 ⟨rfl, b3⟩
        have B3 : Hid (Below w1.heap.size w1 w3) := B2.out.trans (b3.mono B2.out.size)
        obtain ⟨d0, d1⟩ := two_below HC.out B3.out s1
        have ce' : Hid _ := ce.out w3 (HT1.out.grow B3.out) (HL1.out.grow B3.out)
        clear b3 cp' B2
        go_wp2_with fail
        refine Calls.mono (Hid.out ce') ?_; rintro e w4 ⟨g4, rfl, f4, _, l4, b4⟩
        have B4 : Hid (Below w1.heap.size w1 w4) := B3.out.trans (b4.mono B3.out.size)
        have F4 : Hid (Fam w4 g4 0 n (wE P)) := f4
        have cv' : Hid _ := cv.out w4 (HT1.out.grow B4.out)
        clear b4 f4 ce' B3
        go_wp2_with fail
        refine Calls.mono (Hid.out cv') ?_; rintro e w5 ⟨g5, rfl, f5, _, l5, b5⟩
        have B5 : Hid (Below w1.heap.size w1 w5) := B4.out.trans (b5.mono B4.out.size)
        have F5 : Hid (Fam w5 g5 0 s.size (wL s)) := f5
        have F45 : Hid (Fam w5 g4 0 n (wE P)) := F4.out.below b5 l4
        have l45 : g4 < w5.heap.size := Nat.lt_of_lt_of_le l4 b5.size
        have cl2' : Hid _ := cl2.out w5 g5 f5
        clear b5 f5 cv' B4 F4
        go_wp2_with fail
        refine Calls.mono (Hid.out cl2') ?_; rintro e w6 ⟨g6, rfl, f6, _, l6, b6⟩
        have B6 : Hid (Below w1.heap.size w1 w6) := B5.out.trans (b6.mono B5.out.size)
        have cb' : Hid _ := cb1.out w6 g4 g6 (tab_grow HA1.out B6.out) (F45.out.below b6 l45) f6
        clear b6 f6 cl2' B5
        go_wp2_with fail
        refine Calls.mono (Hid.out cb') ?_; rintro e w7 ⟨o7, k7, rfl, _, b7⟩
        have B7 : Hid (Below w.heap.size w w7) := B1.out.trans ((B6.out.trans (b7.mono B6.out.size)).mono B1.out.size)
        clear b7 cb' B6
        go_wp2_with fail
        refine bodyPost_ret (results_tmp3 rfl _ _ _) rfl ?_
        exact ⟨none, 0, rfl, fun h => by omega, B7.out⟩
      | true =>
        have hz' : we P n K s.size z = 0 := of_decide_eq_true hz
        have e3 : wq P n K s.size z = 2 * ct n s.size z := if_pos hz'
        have e2 : wn P n K s.size z = s.size + 1 - n := if_pos hz'
        rw [x3 hz', hz'] at cb1
        have cb2 : Hid (∀ v g h, Tab v → Fam v g 0 n (wE2 P) → Fam v h 0 s.size (wL s) → Calls Tryd.prog 32 #[.slice (some ⟨g, 0, none⟩) n n, .slice (some ⟨h, 0, none⟩) s.size s.size, .int .i64 z] v (Told3 v (wn P n K s.size z) (cr n (wE2 P) (wL s)) (ct n s.size z) 0)) := fun v g h hv hg hh => by
          have := bcor_any (some ⟨g, 0, none⟩) (some ⟨h, 0, none⟩) n s.size n s.size z (by omega) hs (Nat.le_refl _) (wE2 P) (wL s) (fun t => (wE2_in P t).1) (fun t => (wL_in s t).1) (fun t => by have := wE2_in P t; omega) (fun t => by have := wL_in s t; omega) v hv (fun _ => ⟨g, 0, rfl, hg⟩) (fun _ => ⟨h, 0, rfl, hh⟩)
          rw [y1, y2, y3 hz', hz'] at this
          exact this
        have cw : Hid (∀ v, TabB v → Lf v ao n P → Calls Tryd.prog 13 #[.agg #[.slice ao n cap, .int .i64 K]] v fun e w' => e = .returned (.int .u64 (wg P n)) ∧ Below v.heap.size v w') := fun v h1 h2 => weight_any P n cap ao K (by omega) v h1 h2
        have HF : Hid (∀ i, i < s.size + 1 - n → 0 ≤ cr n (wE P) (wL2 s) i ∧ 0 ≤ cr n (wE2 P) (wL s) i ∧ wg P n + cr n (wE P) (wL2 s) i ≤ 18446744073709551615 ∧ 2 * cr n (wE2 P) (wL s) i ≤ 18446744073709551615 ∧ 0 ≤ wg P n + cr n (wE P) (wL2 s) i - 2 * cr n (wE2 P) (wL s) i ∧ wg P n + cr n (wE P) (wL2 s) i - 2 * cr n (wE2 P) (wL s) i = ws P s i n) := fun i hi => ws_fits P s n i h64 (by omega)
        have hW := (wg_le P n).1
        have cs : Hid _ := fun (oo io : Option Addr) (N c d : Nat) (v : World) => wsummer_any (wg P n) oo io N c d v
        obtain ⟨k0, k1⟩ := ct_small (n := n) (m := s.size) (z := z)
        rw [e2] at cb1 cb2
        rw [hz', e2, e3]
        obtain ⟨N, hN⟩ : ∃ N, s.size + 1 - n = N := ⟨_, rfl⟩
        have hN1 : N ≤ 1000000 := by omega
        rw [hN] at cb1 cb2 HF ⊢
        clear hw hr hp e2 e3 x1 x2 x3 y1 y2 y3 hz hz' hN
        generalize cr n (wE P) (wL2 s) = F at *
        generalize cr n (wE2 P) (wL s) = G at *
        generalize ct (n : Int) (s.size : Int) z = C at *
        generalize wg P n = W at *
        go_enter Tryd.func15, Tryd.ntmps15
        go_wp2_with (first | rw [← E1.out])
        refine Calls.mono (Hid.out cc) ?_; rintro e w2 ⟨rfl, b2⟩
        have B2 : Hid (Below w1.heap.size w1 w2) := b2
        have cp' : Hid _ := cp.out w2 b2
        obtain ⟨d0, d1⟩ := two_below HC.out b2 s1
        clear b2 cc c0 c1 E1 cp
        go_wp2_with fail
        refine Calls.mono (Hid.out cp') ?_; rintro e w3 ⟨rfl, b3⟩
        have B3 : Hid (Below w1.heap.size w1 w3) := B2.out.trans (b3.mono B2.out.size)
        clear d0 d1
        obtain ⟨d0, d1⟩ := two_below HC.out B3.out s1
        have ce' : Hid _ := ce.out w3 (HT1.out.grow B3.out) (HL1.out.grow B3.out)
        clear b3 cp' B2
        go_wp2_with fail
        refine Calls.mono (Hid.out ce') ?_; rintro e w4 ⟨g4, rfl, f4, _, l4, b4⟩
        have B4 : Hid (Below w1.heap.size w1 w4) := B3.out.trans (b4.mono B3.out.size)
        have F4 : Hid (Fam w4 g4 0 n (wE P)) := f4
        have cv' : Hid _ := cv.out w4 (HT1.out.grow B4.out)
        clear b4 f4 ce' B3 d0 d1
        go_wp2_with fail
        refine Calls.mono (Hid.out cv') ?_; rintro e w5 ⟨g5, rfl, f5, _, l5, b5⟩
        have B5 : Hid (Below w1.heap.size w1 w5) := B4.out.trans (b5.mono B4.out.size)
        have F5 : Hid (Fam w5 g5 0 s.size (wL s)) := f5
        have F45 : Hid (Fam w5 g4 0 n (wE P)) := F4.out.below b5 l4
        have l45 : g4 < w5.heap.size := Nat.lt_of_lt_of_le l4 b5.size
        have cl2' : Hid _ := cl2.out w5 g5 f5
        clear b5 f5 cv' B4 F4
        go_wp2_with fail
        refine Calls.mono (Hid.out cl2') ?_; rintro e w6 ⟨g6, rfl, f6, _, l6, b6⟩
        have B6 : Hid (Below w1.heap.size w1 w6) := B5.out.trans (b6.mono B5.out.size)
        have F46 : Hid (Fam w6 g4 0 n (wE P)) := F45.out.below b6 l45
        have F56 : Hid (Fam w6 g5 0 s.size (wL s)) := F5.out.below b6 l5
        have l46 : g4 < w6.heap.size := Nat.lt_of_lt_of_le l45 b6.size
        have l56 : g5 < w6.heap.size := Nat.lt_of_lt_of_le l5 b6.size
        have cb' : Hid _ := cb1.out w6 g4 g6 (tab_grow HA1.out B6.out) F46.out f6
        clear b6 f6 cl2' B5 F45 F5
        go_wp2_with fail
        refine Calls.mono (Hid.out cb') ?_; rintro e w7 ⟨o7, k7, rfl, y7, b7⟩
        have B7 : Hid (Below w1.heap.size w1 w7) := B6.out.trans (b7.mono B6.out.size)
        have F47 : Hid (Fam w7 g4 0 n (wE P)) := F46.out.below b7 l46
        have F57 : Hid (Fam w7 g5 0 s.size (wL s)) := F56.out.below b7 l56
        have l57 : g5 < w7.heap.size := Nat.lt_of_lt_of_le l56 b7.size
        have Y7 : Hid (Lies w7 o7 N F) := y7
        have ce2' : Hid _ := ce2.out w7 g4 F47.out
        clear b7 y7 cb' B6 F46 F56
        go_wp2_with fail
        refine Calls.mono (Hid.out ce2') ?_; rintro e w8 ⟨g8, rfl, f8, _, l8, b8⟩
        have B8 : Hid (Below w1.heap.size w1 w8) := B7.out.trans (b8.mono B7.out.size)
        have Y8 : Hid (Lies w8 o7 N F) := Y7.out.below b8 (Nat.le_refl _)
        have cb' : Hid _ := cb2.out w8 g8 g5 (tab_grow HA1.out B8.out) f8 (F57.out.below b8 l57)
        clear b8 f8 ce2' B7 Y7 F47 F57
        go_wp2_with fail
        refine Calls.mono (Hid.out cb') ?_; rintro e w9 ⟨o9, k9, rfl, y9, b9⟩
        have B9 : Hid (Below w1.heap.size w1 w9) := B8.out.trans (b9.mono B8.out.size)
        have X9 : Hid (Lies w9 o7 N F) := Y8.out.below b9 (Nat.le_refl _)
        have Y9 : Hid (Lies w9 o9 N G) := y9
        obtain ⟨d0, d1⟩ := two_below HC.out B9.out s1
        have cw' : Hid _ := cw.out w9 (HT1.out.grow B9.out) (HL1.out.grow B9.out)
        clear b9 y9 cb' B8 Y8
        go_wp2_with fail
        refine Calls.mono (Hid.out cw') ?_; rintro e w10 ⟨rfl, b10⟩
        have B10 : Hid (Below w1.heap.size w1 w10) := B9.out.trans (b10.mono B9.out.size)
        have X10 : Hid (Lies w10 o7 N F) := X9.out.below b10 (Nat.le_refl _)
        have Y10 : Hid (Lies w10 o9 N G) := Y9.out.below b10 (Nat.le_refl _)
        clear b10 cw' B9 X9 Y9 d0 d1
        go_wp2_with fail
        refine Calls.mono (cs.out _ _ _ _ _ _) ?_; rintro e w11 ⟨rfl, sb11, b11⟩
        have B11 : Hid (Below w.heap.size w w11) := B1.out.trans ((B10.out.trans (b11.mono B10.out.size)).mono B1.out.size)
        have X11 : Hid (Lies w11 o7 N F) := X10.out.below b11 (Nat.le_refl _)
        have Y11 : Hid (Lies w11 o9 N G) := Y10.out.below b11 (Nat.le_refl _)
        have S11 : Hid _ := sb11
        have hmk := fun v => makeU N (by omega) v
        have hfu := fu_made w11 w11 N (fun i => ws P s i n) (Below.refl _ _)
        clear b11 B10 X10 Y10 sb11 cs cw cb1 cb2 cl2 ce2 ce cv
        generalize Obj.cells (madeCells #[.int .u64 0] N) 22 = ob at *
        obtain ⟨w12, e12⟩ : ∃ w12, w12 = w11.alloc ob := ⟨_, rfl⟩
        rw [← e12] at hfu
        have E12 : Hid _ := e12
        have HU : Hid _ := hfu
        clear hfu e12
        generalize w10.heap.size = B at *
        go_wp2_with (first | rw [← E12.out])
        clear E12 hmk
        go_loopw [63] (fun vk wr => ∃ k : Nat, k ≤ N ∧ vk = .int .i64 k ∧ Fu w11 wr w11.heap.size N k (fun i => ws P s i n)) (fun vk _ => N - (intOf vk).toNat)
        case atStart => exact ⟨0, Nat.zero_le _, rfl, HU.out⟩
        case round =>
          obtain ⟨k, hk, rfl, hF⟩ := hrel
          have HFr : Hid _ := hF
          have SBr : Hid _ := S11.out.grow hF.bel
          have LX : Hid (Lies wr o7 N F) := X11.out.below hF.bel (Nat.le_refl _)
          have LY : Hid (Lies wr o9 N G) := Y11.out.below hF.bel (Nat.le_refl _)
          clear hF
          by_cases hkn : k < N
          · obtain ⟨t0, t1, t2, t3, t4, t5⟩ := HF.out k hkn
            have hkI : (k : Int) < (N : Int) := by omega
            have ca : Hid _ := wsumAt_any B k N _ _ W o7 o9 F G hkn (by omega) hW t0 t1 t2 t3 t4 wr SBr.out LX.out LY.out
            rw [t5] at ca
            clear t0 t1 t2 t3 t4 t5
            go_wp2_with fail
            refine Calls.mono (Hid.out ca) ?_; rintro e wq ⟨rfl, q, rfl⟩
            have F2 : Hid (Fu w11 (wr.drewN q) w11.heap.size N k (fun i => ws P s i n)) := ⟨below_drewN HFr.out.bel q, HFr.out.lt, HFr.out.fam, HFr.out.wrt⟩
            have hc := F2.out.cell hkn
            have hf := F2.out.wrt.zero k hkn
            have F3 : Hid _ := F2.out.put (Nat.le_refl _) hkn rfl
            clear ca
            go_wp2_with fail
            go_roundw
            case rel => exact ⟨k + 1, by omega, by go_num, F3.out⟩
            case measure => simp [intOf]; omega
          · obtain rfl : k = N := by omega
            have HN : Hid _ := HFr.out.new (Nat.le_refl _)
            go_wp2_with fail
            refine bodyPost_ret (results_tmp3 rfl _ _ _) rfl ?_
            obtain ⟨g, hg, hfam, _, _, hb⟩ := HN.out
            refine ⟨some ⟨w11.heap.size, 0, none⟩, k, ?_, fun _ => ⟨w11.heap.size, 0, rfl, ?_⟩, B11.out.trans (hb.mono B11.out.size)⟩
            · have e : 2 * C = C + C := by omega
              rw [e]
              rfl
            · cases hg
              exact hfam

end Cls
end Go.Proofs.YtbojmkkpgglhhaaDoor
