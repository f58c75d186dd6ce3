/- Contract of crt.Rows. -/
import Derived.Test.YtcppcfbcgopmoaaDoorCrtJoin
import Derived.Test.YtcppcfbcgopmoaaDoorCrtRef
import Derived.Deep.DrawnRows
import Derived.Deep.RegionHeld3
namespace Go.Proofs.YtcppcfbcgopmoaaDoor
open Go.RowKit Res

theorem Joined.yes {x y z : Int} {e : Ending} (h : Joined x y z e) (hf : nm x y z ≤ 18446744073709551615) : e = .returned (.tuple #[.int .u64 (nm x y z), .bool true]) := by
  rcases h with ⟨_, h⟩ | ⟨h, _⟩
  · exact h
  · omega
theorem Joined.no {x y z : Int} {e : Ending} (h : Joined x y z e) (hf : 18446744073709551616 ≤ nm x y z) : e = .returned (.tuple #[.int .u64 0, .bool false]) := by
  rcases h with ⟨h, _⟩ | ⟨_, h⟩
  · omega
  · exact h
/-- A slice of n numbers: where there is one, it leads into a row of memory. -/
def Lies (w : World) (ao : Option Addr) (n : Nat) (L : Nat → Int) : Prop := 1 ≤ n → ∃ b o, ao = some ⟨b, o, none⟩ ∧ Fam w b o n L
theorem Lies.below {B : Nat} {w w' : World} {ao : Option Addr} {n : Nat} {L : Nat → Int} (h : Lies w ao n L) (hb : Below B w w') (hB : w.heap.size ≤ B) : Lies w' ao n L := fun hn => by
  obtain ⟨b, o, e, hf⟩ := h hn
  exact ⟨b, o, e, hf.below hb (Nat.lt_of_lt_of_le (hf.lt hn) hB)⟩
/-- A row of the call's own that is filled, while other blocks come. -/
structure Grow (w1 wr : World) (g n i : Nat) (L G : Nat → Int) : Prop where
  fam : Fam wr g 0 n (mix i L G)
  wrt : Wrt wr g 0 n
  bel : Below g w1 wr
  lt : g < wr.heap.size
theorem Grow.below {w1 wr w' : World} {g n i : Nat} {L G : Nat → Int} (h : Grow w1 wr g n i L G) (hb : Below wr.heap.size wr w') : Grow w1 w' g n i L G :=
  ⟨h.fam.below hb h.lt, h.wrt.below hb h.lt, h.bel.trans (hb.mono (Nat.le_of_lt h.lt)), Nat.lt_of_lt_of_le h.lt hb.size⟩
theorem Grow.step {w1 wr : World} {g n i : Nat} {L G : Nat → Int} (h : Grow w1 wr g n i L G) (hi : i < n) {x : Int} (hx : x = L i) : Grow w1 (wr.setCell ⟨g, i, none⟩ (.int .u64 x)) g n (i + 1) L G := by
  have hF := Fill.step (w1 := wr) ⟨h.fam, h.wrt, Wrote.refl _ _⟩ hi hx
  exact ⟨hF.fam, hF.wrt, h.bel.trans (hF.wrote.below (fun b o e => by omega)), by rw [hF.wrote.size]; exact h.lt⟩

/-- What Rows tells, of rows that are as many. -/
def RowsTold (w : World) (n : Nat) (N : Nat → Int) (e : Ending) (w' : World) : Prop :=
  ((∀ t, t < n → N t ≤ 18446744073709551615) ∧ ∃ g, e = .returned (.tuple #[.slice (some ⟨g, 0, none⟩) n n, .bool true]) ∧ w.heap.size ≤ g ∧ g < w'.heap.size ∧ Fam w' g 0 n N) ∨
  ((∃ t, t < n ∧ 18446744073709551616 ≤ N t) ∧ e = .returned (.tuple #[.slice none 0 0, .bool false]))

set_option maxHeartbeats 400000 in
theorem rows_b (ao bo co : Option Addr) (n m l ca cb cc : Nat) (hnm : m ≠ n) (w : World) :
    Calls Tryd.prog 28 #[.slice ao n ca, .slice bo m cb, .slice co l cc] w fun e w' => e = .returned (.tuple #[.slice none 0 0, .bool false]) ∧ w' = w := by
  have h1 : ((m : Int) == (n : Int)) = false := beq_eq_false_iff_ne.2 (by omega)
  go_enter Tryd.func28, Tryd.ntmps28
  go_wp2_with fail
  go_ret2
  exact ⟨rfl, rfl⟩

set_option maxHeartbeats 400000 in
theorem rows_c (ao bo co : Option Addr) (n l ca cb cc : Nat) (hnl : l ≠ n) (w : World) :
    Calls Tryd.prog 28 #[.slice ao n ca, .slice bo n cb, .slice co l cc] w fun e w' => e = .returned (.tuple #[.slice none 0 0, .bool false]) ∧ w' = w := by
  have h1 : ((l : Int) == (n : Int)) = false := beq_eq_false_iff_ne.2 (by omega)
  go_enter Tryd.func28, Tryd.ntmps28
  go_wp2_with fail
  go_ret2
  exact ⟨rfl, rfl⟩

set_option maxHeartbeats 2000000 in
theorem rows_any (ao bo co : Option Addr) (n ca cb cc : Nat) (hn : n ≤ 8192) (A B C : Nat → Int) (hA : ∀ t, 0 ≤ A t) (hB : ∀ t, 0 ≤ B t) (hC : ∀ t, 0 ≤ C t) (w : World) (hT : Tab w) (la : Lies w ao n A) (lb : Lies w bo n B) (lc : Lies w co n C) :
    Calls Tryd.prog 28 #[.slice ao n ca, .slice bo n cb, .slice co n cc] w fun e w' => RowsTold w n (fun t => nm (A t) (B t) (C t)) e w' ∧ Below w.heap.size w w' := by
  have c1 : Hid _ := inverses_any w hT
  have hself : ((n : Int) == (n : Int)) = true := beq_iff_eq.2 rfl
  have hlt := tab_lt hT
  have La : Hid _ := la
  have Lb : Hid _ := lb
  have Lc : Hid _ := lc
  clear la lb lc
  go_enter Tryd.func28, Tryd.ntmps28
  go_wp2_with fail
  refine Calls.mono (Hid.out c1) ?_; rintro e w1 ⟨rfl, b1⟩
  have T1 : Tab w1 := hT.below b1 hlt
  obtain ⟨w2, x2⟩ := box3 w1 1 47450712 115990628 51
  have E2 : Hid _ := x2.eq
  have hmk := run_make_row' (P := Tryd.prog) 22 26 (.int .u64 0) 8 Tryd.underlying22 infoU rfl .i64 .i64 n (by omega) (by omega)
  obtain ⟨w3, hw3⟩ : ∃ w3, w3 = w2.alloc (.cells (madeCells #[.int .u64 0] n) 26) := ⟨_, rfl⟩
  have E3 : Hid _ := hw3
  have b3 : Below w2.heap.size w2 w3 := by rw [hw3]; exact (Below.refl _ _).alloc (Nat.le_refl _) _
  have s3 : w2.heap.size < w3.heap.size := by rw [hw3]; show _ < (w2.heap.push _).size; simp
  have s2 : w1.heap.size < w2.heap.size := by have := x2.size; omega
  have s1 : w.heap.size ≤ w1.heap.size := b1.size
  have T3 : Tab w3 := (x2.tab T1).below b3 (tab_lt (x2.tab T1))
  have B12 : Below w.heap.size w w2 := b1.trans (x2.bel.mono b1.size)
  have B3 : Hid (Below w.heap.size w w3) := B12.trans (b3.mono (by omega))
  have Fi : Hid (Fam w3 w1.heap.size 0 3 (r3 1 47450712 115990628)) := x2.fam.below b3 s2
  have G0 : Hid (Grow w3 w3 w2.heap.size n 0 (fun t => nm (A t) (B t) (C t)) (fun _ => 0)) := ⟨by rw [mix_zero, hw3]; exact fam_made w2 n 26, by rw [hw3]; exact wrt_made w2 n 26, Below.refl _ _, s3⟩
  have La3 : Hid (Lies w3 ao n A) := Lies.below La.out B3.out (Nat.le_refl _)
  have Lb3 : Hid (Lies w3 bo n B) := Lies.below Lb.out B3.out (Nat.le_refl _)
  have Lc3 : Hid (Lies w3 co n C) := Lies.below Lc.out B3.out (Nat.le_refl _)
  have Ea : Hid (∀ b o, ao = some ⟨b, o, none⟩ → 1 ≤ n → b < w.heap.size) := fun b o e h => by
    obtain ⟨b', o', e', hf⟩ := La.out h
    rw [e] at e'; injection e' with e'; injection e' with e1 _ _
    rw [e1]; exact Fam.lt hf h
  have Eb : Hid (∀ b o, bo = some ⟨b, o, none⟩ → 1 ≤ n → b < w.heap.size) := fun b o e h => by
    obtain ⟨b', o', e', hf⟩ := Lb.out h
    rw [e] at e'; injection e' with e'; injection e' with e1 _ _
    rw [e1]; exact Fam.lt hf h
  have Ec : Hid (∀ b o, co = some ⟨b, o, none⟩ → 1 ≤ n → b < w.heap.size) := fun b o e h => by
    obtain ⟨b', o', e', hf⟩ := Lc.out h
    rw [e] at e'; injection e' with e'; injection e' with e1 _ _
    rw [e1]; exact Fam.lt hf h
  have H2 : Hid (w1.heap.size + 1 = w2.heap.size) := x2.size.symm
  clear hw3 b3 B12 x2 b1 T1 c1
  generalize hg1 : w1.heap.size = g1 at *
  have H1 : Hid (w1.heap.size = g1) := hg1
  clear hg1
  generalize w2.heap.size = g2 at *
  go_wp2_with fail
  rw [← E2.out, ← E3.out, H1.out, H2.out]
  clear E2 E3 H1 H2 hmk
  go_loopw [31] (fun vi wr => ∃ i : Nat, i ≤ n ∧ vi = .int .i64 i ∧ (∀ t, t < i → nm (A t) (B t) (C t) ≤ 18446744073709551615) ∧ Grow w3 wr g2 n i (fun t => nm (A t) (B t) (C t)) (fun _ => 0)) (fun vi _ => n - (intOf vi).toNat)
  case atStart => exact ⟨0, Nat.zero_le _, rfl, fun t h => by omega, G0.out⟩
  case round =>
    obtain ⟨i, hile, rfl, hall, hG⟩ := hrel
    have HG : Hid _ := hG
    have Hall : Hid _ := hall
    have Tr : Tab wr := T3.below hG.bel (by omega)
    have hszr := hG.lt
    by_cases hin : i < n
    · obtain ⟨ab, aof, rfl, fa⟩ := La3.out (by omega)
      obtain ⟨bb, bof, rfl, fb⟩ := Lb3.out (by omega)
      obtain ⟨cb', cof, rfl, fc⟩ := Lc3.out (by omega)
      have la := Ea.out _ _ rfl (by omega)
      have lb := Eb.out _ _ rfl (by omega)
      have lc := Ec.out _ _ rfl (by omega)
      have ka : wr.cell? ⟨ab, aof + i, none⟩ = some (.int .u64 (A i)) := (fa.below hG.bel (by omega)) i hin
      have kb : wr.cell? ⟨bb, bof + i, none⟩ = some (.int .u64 (B i)) := (fb.below hG.bel (by omega)) i hin
      have kc : wr.cell? ⟨cb', cof + i, none⟩ = some (.int .u64 (C i)) := (fc.below hG.bel (by omega)) i hin
      obtain ⟨k0, k1, k2⟩ := ((show Fam w3 g1 0 3 (r3 1 47450712 115990628) from Fi.out).below hG.bel s2).c3
      have la' : ab < wr.heap.size := by omega
      have lb' : bb < wr.heap.size := by omega
      have lc' : cb' < wr.heap.size := by omega
      have lg' : g1 < wr.heap.size := by omega
      have hAi := hA i
      have hBi := hB i
      have hCi := hC i
      have hinI : (i : Int) < (n : Int) := by omega
      have hi0 : (0 : Int) ≤ (i : Int) := by omega
      clear hG hall fa fb fc
      have hst : Hid (∀ w4 w5 : World, Below wr.heap.size wr w4 → Below w4.heap.size w4 w5 → Grow w3 w5 g2 n i (fun t => nm (A t) (B t) (C t)) (fun _ => 0)) := fun w4 w5 h4 h5 => (Grow.below HG.out h4).below h5
      by_cases hfit : nm (A i) (B i) (C i) ≤ 18446744073709551615
      · go_wp2_with fail
        go_region_held3 (fun w' => w'.cell? ⟨ab, aof + i, none⟩ = some (.int .u64 (A i)) ∧ w'.cell? ⟨bb, bof + i, none⟩ = some (.int .u64 (B i)) ∧ w'.cell? ⟨cb', cof + i, none⟩ = some (.int .u64 (C i)) ∧ w'.cell? ⟨g1, 0, none⟩ = some (.int .u64 1) ∧ w'.cell? ⟨g1, 1, none⟩ = some (.int .u64 47450712) ∧ w'.cell? ⟨g1, 2, none⟩ = some (.int .u64 115990628)) (go_keep)
          (first | (go_at_call 39; refine (digitsOf_any (A i) (B i) (C i) hAi hBi hCi _ ?hT).mono ?_; (case hT => exact Tr); rintro e w4 ⟨rfl, b4⟩; have b4' : Below wr.heap.size wr w4 := below_undrew b4; have T4 : Tab w4 := Tr.below b4' (tab_lt Tr); have ka4 : w4.cell? ⟨ab, aof + i, none⟩ = some (.int .u64 (A i)) := (b4'.cell (p := ⟨ab, aof + i, none⟩) la').trans ka; have kb4 : w4.cell? ⟨bb, bof + i, none⟩ = some (.int .u64 (B i)) := (b4'.cell (p := ⟨bb, bof + i, none⟩) lb').trans kb; have kc4 : w4.cell? ⟨cb', cof + i, none⟩ = some (.int .u64 (C i)) := (b4'.cell (p := ⟨cb', cof + i, none⟩) lc').trans kc; have k04 : w4.cell? ⟨g1, 0, none⟩ = some (.int .u64 1) := (b4'.cell (p := ⟨g1, 0, none⟩) lg').trans k0; have k14 : w4.cell? ⟨g1, 1, none⟩ = some (.int .u64 47450712) := (b4'.cell (p := ⟨g1, 1, none⟩) lg').trans k1; have k24 : w4.cell? ⟨g1, 2, none⟩ = some (.int .u64 115990628) := (b4'.cell (p := ⟨g1, 2, none⟩) lg').trans k2; have H4 : Hid (Below wr.heap.size wr w4) := b4'; clear b4 b4') | (go_at_call 38; refine (numberOf_any (A i) (B i) (C i) _ ?hT).mono ?_; (case hT => exact T4); rintro e w5 ⟨hJ, b5⟩; obtain rfl := hJ.yes hfit; clear hJ; have G5 : Hid (Grow w3 w5 g2 n i (fun t => nm (A t) (B t) (C t)) (fun _ => 0)) := hst.out w4 w5 H4.out b5; have z4 : wr.heap.size ≤ w4.heap.size := H4.out.size; have ka5 : w5.cell? ⟨ab, aof + i, none⟩ = some (.int .u64 (A i)) := (b5.cell (p := ⟨ab, aof + i, none⟩) (Nat.lt_of_lt_of_le la' z4)).trans ka4; have kb5 : w5.cell? ⟨bb, bof + i, none⟩ = some (.int .u64 (B i)) := (b5.cell (p := ⟨bb, bof + i, none⟩) (Nat.lt_of_lt_of_le lb' z4)).trans kb4; have kc5 : w5.cell? ⟨cb', cof + i, none⟩ = some (.int .u64 (C i)) := (b5.cell (p := ⟨cb', cof + i, none⟩) (Nat.lt_of_lt_of_le lc' z4)).trans kc4; have k05 : w5.cell? ⟨g1, 0, none⟩ = some (.int .u64 1) := (b5.cell (p := ⟨g1, 0, none⟩) (Nat.lt_of_lt_of_le lg' z4)).trans k04; have k15 : w5.cell? ⟨g1, 1, none⟩ = some (.int .u64 47450712) := (b5.cell (p := ⟨g1, 1, none⟩) (Nat.lt_of_lt_of_le lg' z4)).trans k14; have k25 : w5.cell? ⟨g1, 2, none⟩ = some (.int .u64 115990628) := (b5.cell (p := ⟨g1, 2, none⟩) (Nat.lt_of_lt_of_le lg' z4)).trans k24; clear b5))
        have G5' := (show Grow w3 w5 g2 n i (fun t => nm (A t) (B t) (C t)) (fun _ => 0) from G5.out)
        have hc5 := G5'.fam.zero i hin
        have hf5 := G5'.wrt.zero i hin
        have HS : Hid _ := G5'.step hin (x := nm (A i) (B i) (C i)) rfl
        have HA : Hid (∀ t, t < i + 1 → nm (A t) (B t) (C t) ≤ 18446744073709551615) := fun t ht => by
          by_cases e : t = i
          · rw [e]; exact hfit
          · exact Hall.out t (by omega)
        clear G5' ka ka4 ka5 kb kb4 kb5 kc kc4 kc5 k0 k04 k05 k1 k14 k15 k2 k24 k25
        go_wp2_with fail
        go_roundw
        case rel => exact ⟨i + 1, by omega, by go_num, HA.out, HS.out⟩
        case measure => simp [intOf]; omega
      · go_wp2_with fail
        go_region_held3 (fun w' => w'.cell? ⟨ab, aof + i, none⟩ = some (.int .u64 (A i)) ∧ w'.cell? ⟨bb, bof + i, none⟩ = some (.int .u64 (B i)) ∧ w'.cell? ⟨cb', cof + i, none⟩ = some (.int .u64 (C i)) ∧ w'.cell? ⟨g1, 0, none⟩ = some (.int .u64 1) ∧ w'.cell? ⟨g1, 1, none⟩ = some (.int .u64 47450712) ∧ w'.cell? ⟨g1, 2, none⟩ = some (.int .u64 115990628)) (go_keep)
          (first | (go_at_call 39; refine (digitsOf_any (A i) (B i) (C i) hAi hBi hCi _ ?hT).mono ?_; (case hT => exact Tr); rintro e w4 ⟨rfl, b4⟩; have b4' : Below wr.heap.size wr w4 := below_undrew b4; have T4 : Tab w4 := Tr.below b4' (tab_lt Tr); have ka4 : w4.cell? ⟨ab, aof + i, none⟩ = some (.int .u64 (A i)) := (b4'.cell (p := ⟨ab, aof + i, none⟩) la').trans ka; have kb4 : w4.cell? ⟨bb, bof + i, none⟩ = some (.int .u64 (B i)) := (b4'.cell (p := ⟨bb, bof + i, none⟩) lb').trans kb; have kc4 : w4.cell? ⟨cb', cof + i, none⟩ = some (.int .u64 (C i)) := (b4'.cell (p := ⟨cb', cof + i, none⟩) lc').trans kc; have k04 : w4.cell? ⟨g1, 0, none⟩ = some (.int .u64 1) := (b4'.cell (p := ⟨g1, 0, none⟩) lg').trans k0; have k14 : w4.cell? ⟨g1, 1, none⟩ = some (.int .u64 47450712) := (b4'.cell (p := ⟨g1, 1, none⟩) lg').trans k1; have k24 : w4.cell? ⟨g1, 2, none⟩ = some (.int .u64 115990628) := (b4'.cell (p := ⟨g1, 2, none⟩) lg').trans k2; have H4 : Hid (Below wr.heap.size wr w4) := b4'; clear b4 b4') | (go_at_call 38; refine (numberOf_any (A i) (B i) (C i) _ ?hT).mono ?_; (case hT => exact T4); rintro e w5 ⟨hJ, b5⟩; obtain rfl := hJ.no (by omega); clear hJ; have G5 : Hid (Grow w3 w5 g2 n i (fun t => nm (A t) (B t) (C t)) (fun _ => 0)) := hst.out w4 w5 H4.out b5; have z4 : wr.heap.size ≤ w4.heap.size := H4.out.size; have ka5 : w5.cell? ⟨ab, aof + i, none⟩ = some (.int .u64 (A i)) := (b5.cell (p := ⟨ab, aof + i, none⟩) (Nat.lt_of_lt_of_le la' z4)).trans ka4; have kb5 : w5.cell? ⟨bb, bof + i, none⟩ = some (.int .u64 (B i)) := (b5.cell (p := ⟨bb, bof + i, none⟩) (Nat.lt_of_lt_of_le lb' z4)).trans kb4; have kc5 : w5.cell? ⟨cb', cof + i, none⟩ = some (.int .u64 (C i)) := (b5.cell (p := ⟨cb', cof + i, none⟩) (Nat.lt_of_lt_of_le lc' z4)).trans kc4; have k05 : w5.cell? ⟨g1, 0, none⟩ = some (.int .u64 1) := (b5.cell (p := ⟨g1, 0, none⟩) (Nat.lt_of_lt_of_le lg' z4)).trans k04; have k15 : w5.cell? ⟨g1, 1, none⟩ = some (.int .u64 47450712) := (b5.cell (p := ⟨g1, 1, none⟩) (Nat.lt_of_lt_of_le lg' z4)).trans k14; have k25 : w5.cell? ⟨g1, 2, none⟩ = some (.int .u64 115990628) := (b5.cell (p := ⟨g1, 2, none⟩) (Nat.lt_of_lt_of_le lg' z4)).trans k24; clear b5))
        have B5 : Hid (Below w.heap.size w w5) := B3.out.trans ((Grow.bel (show Grow w3 w5 g2 n i (fun t => nm (A t) (B t) (C t)) (fun _ => 0) from G5.out)).mono (by omega))
        have HN : Hid (∃ t, t < n ∧ 18446744073709551616 ≤ nm (A t) (B t) (C t)) := ⟨i, hin, by omega⟩
        clear ka ka4 ka5 kb kb4 kb5 kc kc4 kc5 k0 k04 k05 k1 k14 k15 k2 k24 k25
        go_wp2_with fail
        go_ret2
        exact ⟨Or.inr ⟨HN.out, rfl⟩, B5.out⟩
    · obtain rfl : i = n := by omega
      have hfam : Hid (Fam wr g2 0 i (fun t => nm (A t) (B t) (C t))) := hG.fam.congr (fun t ht => mix_lo ht)
      have B5 : Hid (Below w.heap.size w wr) := B3.out.trans (hG.bel.mono (by omega))
      clear hG HG hall
      go_wp2_with fail
      go_ret2
      exact ⟨Or.inl ⟨Hall.out, g2, rfl, by omega, hszr, hfam.out⟩, B5.out⟩
end Go.Proofs.YtcppcfbcgopmoaaDoor
