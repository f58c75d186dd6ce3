/- Contracts of slices.Clone (of a row that is not empty) and of conv.Correlate, of any rows. -/
import Derived.Test.YtcppcfbcgopmoaaDoorConvSch
import Derived.Lib.LazyBuf
namespace Go.Proofs.YtcppcfbcgopmoaaDoor
open Go.RowKit Res

theorem cells_at {w : World} {b o n : Nat} {L : Nat → Int} (h : Fam w b o n L) : ∀ j u, (cellsOf L n)[j]? = some u → w.cell? ((⟨b, o, none⟩ : Addr).add j) = some u := by
  intro j u hu
  have hj : j < n := by
    rcases Nat.lt_or_ge j n with h0 | h0
    · exact h0
    · rw [List.getElem?_eq_none (by simp [cellsOf]; omega)] at hu; cases hu
  rw [show (⟨b, o, none⟩ : Addr).add j = ⟨b, o + j, none⟩ by unfold Addr.add; split <;> simp_all, h j hj, ← hu]
  simp [cellsOf, hj]
theorem cells_one (L : Nat → Int) (n : Nat) : ∀ u ∈ cellsOf L n, u.oneCell' = true := by
  intro u hu
  simp [cellsOf] at hu
  obtain ⟨_, _, rfl⟩ := hu
  rfl
theorem empty_own (w : World) : (w.alloc (.cells #[] 26)).ownsRow w.heap.size 26 1 (.slice (some ⟨w.heap.size, 0, none⟩) 0 0) 0 [] := World.ownsRow_lit w #[] 0 (Nat.le_refl _) (by unfold maxLen; omega) rfl
theorem empty_grown {w v1 : World} (hg : (w.alloc (.cells #[] 26)).grownBy v1 (Value.ownBlock (.slice (some ⟨w.heap.size, 0, none⟩) 0 0))) : Below w.heap.size w v1 :=
  ((Below.refl w.heap.size w).alloc (Nat.le_refl _) (.cells #[] 26)).grown hg (by show _ ≤ (w.heap.push _).size; simp) (fun k hk => by simp [Value.ownBlock] at hk; omega)

set_option maxHeartbeats 400000 in
theorem clone_row (b o n c : Nat) (h1 : 1 ≤ n) (hle : n ≤ 1152921504606) (L : Nat → Int) (w : World) (hf : Fam w b o n L) :
    Calls Tryd.prog 30 #[.slice (some ⟨b, o, none⟩) n c] w fun e w' =>
      ∃ g cap, e = .returned (.slice (some ⟨g, 0, none⟩) n cap) ∧ Fam w' g 0 n L ∧ Below w.heap.size w w' := by
  obtain ⟨i0, hi, hz0, hz1, hz2⟩ := info_parts infoU
  have hown0 := empty_own w
  have hnews := cells_at (hf.alloc (.cells #[] 26))
  have hnil : ∀ w, (binOp .eql 22 (.slice (some ⟨b, o, none⟩) n c) (.slice none 0 0)).run Tryd.prog w = .ok (.bool false) w := fun w => run_eql_slice_nil w 22 26 _ _ _ Tryd.underlying22
  clear hf
  go_enter Tryd.func30, Tryd.ntmps30
  go_wp2_with (at_builtin; refine wpList_append_own _ rfl _ _ 22 rfl w.heap.size 26 i0 (.int .u64 0) 1 8 Tryd.underlying22 hi hz0 hz1 hz2 rfl (by decide) _ _ _ rfl hown0 ⟨b, o, none⟩ n c (cellsOf L n) rfl (by simp [cellsOf]) hnews (cells_one L n) (by unfold maxLen; omega) (by omega) (by simp) ?_)
  intro gv w1 hown' hgrow _
  have B1 : Hid _ := empty_grown hgrow
  obtain ⟨g, gc, rfl, _, _, fg, _⟩ := own_fam (D := L) (by unfold Own; simpa using hown') h1
  have Fg : Hid (Fam w1 g 0 n L) := fg
  clear hown' hgrow hnews hown0 fg
  go_wp2_with fail
  go_ret
  exact ⟨g, gc, rfl, Fg.out, B1.out⟩

set_option maxHeartbeats 1000000 in
theorem correlate_any (ao bo : Option Addr) (n m ca cb : Nat) (hn : n ≤ 1152921504606846976) (hm : m ≤ 1152921504606846976) (A B : Nat → Int) (hA0 : ∀ t, 0 ≤ A t) (hB0 : ∀ t, 0 ≤ B t) (hA : ∀ t, A t ≤ 18446744073709551615) (hB : ∀ t, B t ≤ 18446744073709551615) (w : World) (la : Lies w ao n A) (lb : Lies w bo m B) :
    Calls Tryd.prog 20 #[.slice ao n ca, .slice bo m cb] w fun e w' => Told w (kl n m A B) (cr n A B) (kc n m A B) e w' := by
  obtain ⟨w1, x1⟩ := boxS w (.slice ao n ca) 22
  have E1 : Hid _ := x1.eq
  have B1 : Hid _ := x1.bel
  have hs1 := x1.size
  have hc1 := x1.cell
  by_cases hno : n = 0 ∨ m < n
  · rw [kc_none hno]
    have hln := kl_none (A := A) (B := B) hno
    have HL : Hid _ := hln
    clear hln la lb x1
    by_cases hn0 : n = 0
    · subst hn0
      clear hno
      go_enter Tryd.func20, Tryd.ntmps20
      go_wp2_with fail
      go_ret2
      rw [← E1.out]
      exact Told.nil HL.out B1.out
    · have hd : ((n : Int) == 0) = false := beq_eq_false_iff_ne.2 (by omega)
      have hd2 : (m : Int) < (n : Int) := by omega
      clear hno
      go_enter Tryd.func20, Tryd.ntmps20
      go_wp2_with fail
      go_ret2
      rw [← E1.out]
      exact Told.nil HL.out B1.out
  have la1 : Lies w1 ao n A := la.below x1.bel (Nat.le_refl _)
  have lb1 : Lies w1 bo m B := lb.below x1.bel (Nat.le_refl _)
  have h1 : 1 ≤ n := by omega
  have h2 : 1 ≤ m := by omega
  have c1 : Hid _ := errorOf_any ao bo n m ca cb h1 h2 hn hm A B hA hB w1 la1 lb1
  rw [kc_some hno]
  have hd : ((n : Int) == 0) = false := beq_eq_false_iff_ne.2 (by omega)
  have hd2 : (n : Int) ≤ (m : Int) := by omega
  by_cases hok : er n m (gr n A) (gr m B) = 0
  · have hfit : ∀ t, cv n m (fun j => A (n - 1 - j)) B t ≤ 18446744073709551615 := cv_fits (fun t => hA0 _) hB0 (by rw [gr_rev n A hA0]; exact hok)
    obtain ⟨N, hN⟩ : ∃ N, n + m = N + 1 := ⟨n + m - 1, by omega⟩
    have hle := (er_zero hok).1
    have c2 : Hid _ := productOf_turned w.heap.size ao bo n m ca cb N h1 h2 hN hle A B (fun j => A (n - 1 - j)) (fun _ _ => rfl) (fun t => hA0 _) hB0 hfit w1 hc1 la1 lb1
    obtain ⟨p, hp⟩ : ∃ p, p + 1 = n := ⟨n - 1, by omega⟩
    obtain ⟨k, hk⟩ : ∃ k, k = m - p := ⟨_, rfl⟩
    have HL : Hid (kl n m A B = k) := by show _ = _; rw [kl_ok hno hok]; omega
    have c3 : Hid (∀ (v : World) (g c : Nat), Fam v g 0 N (cv n m (fun j => A (n - 1 - j)) B) → Calls Tryd.prog 30 #[.slice (some ⟨g, p, none⟩) k c] v fun e w' => ∃ g cap, e = .returned (.slice (some ⟨g, 0, none⟩) k cap) ∧ Fam w' g 0 k (cr n A B) ∧ Below v.heap.size v w') := fun v g c hf => by
      have hf2 := hf.part p k (by omega)
      rw [Nat.zero_add] at hf2
      exact clone_row g p k c (by omega) (by omega) (cr n A B) v (hf2.congr fun t ht => by rw [show p + t = n - 1 + t by omega]; exact turn_cv n m A B h1 t (by omega))
    rw [hok] at c1 ⊢
    have hpI : (n : Int) - 1 = (p : Int) := by omega
    have hkm : p + k = m := by omega
    have hk1 : 1 ≤ k := by omega
    have hmN : m ≤ N := by omega
    have hpm : p < m := by omega
    have hkr : m - p = k := by omega
    clear la lb x1 la1 lb1 hok hno hA hB hA0 hB0 hfit hk hp hkm
    go_enter Tryd.func20, Tryd.ntmps20
    go_wp2_with fail
    rw [← E1.out]
    refine Calls.mono (Hid.out c1) ?_; rintro e w' ⟨rfl, hw'⟩; subst w'
    go_wp2_with fail
    refine Calls.mono (Hid.out c2) ?_; rintro e w2 ⟨rfl, h3, h4, h5⟩
    have c3' : Hid _ := fun c => c3.out w2 w1.heap.size c h4
    have B2 : Hid (Below w.heap.size w w2) := B1.out.trans (h5.mono (by omega))
    have hc2 : w2.cell? ⟨w.heap.size, 0, none⟩ = some (.slice ao n ca) := (h5.cell (p := ⟨w.heap.size, 0, none⟩) hs1).trans hc1
    have hs2 : w.heap.size ≤ w2.heap.size := by omega
    clear h4 h5 c3
    go_wp2_with fail
    refine Calls.mono (Hid.out (c3'.out _)) ?_; rintro e w3 ⟨g, cap, rfl, h6, h7⟩
    have F3 : Hid _ := h6
    have B3 : Hid (Below w.heap.size w w3) := B2.out.trans (h7.mono hs2)
    clear h6 h7
    go_wp2_with fail
    go_ret2
    exact Told.row HL.out F3.out B3.out
  · have HL : Hid _ := kl_no hno hok
    have hok' : (er n m (gr n A) (gr m B) == 0) = false := beq_eq_false_iff_ne.2 hok
    clear la lb x1 la1 lb1 hno hA hB hA0 hB0
    generalize er n m (gr n A) (gr m B) = E at *
    go_enter Tryd.func20, Tryd.ntmps20
    go_wp2_with fail
    rw [← E1.out]
    refine Calls.mono (Hid.out c1) ?_; rintro e w' ⟨rfl, hw'⟩; subst w'
    go_wp2_with fail
    go_ret2
    exact Told.nil HL.out B1.out
end Go.Proofs.YtcppcfbcgopmoaaDoor
