/- Contracts of ntt.Forward, ntt.Inverse and ntt.Cyclic. -/
import Derived.Test.YtcppcfbcgopmoaaDoorNttTed
namespace Go.Proofs.YtcppcfbcgopmoaaDoor
open Go.RowKit Res
attribute [local go_sem ↓] Go.wp_at_zero Go.wp_at_succ

/-- A number of numbers that has no Log. -/
def NoLog (n : Int) : Prop := ∀ m : Nat, m ≤ 12 → n ≠ 2 ^ m
theorem pow_cast {n m : Nat} (h : n = 2 ^ m) : (n : Int) = 2 ^ m := by rw [h, Int.natCast_pow]; rfl

set_option maxHeartbeats 400000 in
theorem inverse_noprime (k : Int) (ao : Option Addr) (n c : Nat) (w : World) (hT : Tab w) (hp : pr k = 0) :
    Calls Tryd.prog 36 #[.int .i64 k, .slice ao n c] w fun e w' => e = .returned (.tuple #[.slice none 0 0, .int .i64 20]) ∧ w' = w := by
  have c1 : Hid _ := rootFor_noprime k n w hT hp
  clear hp
  go_enter Tryd.func36, Tryd.ntmps36
  go_wp2_with fail
  refine Calls.mono (Hid.out c1) ?_; rintro e w' ⟨rfl, hw'⟩; subst w'
  go_wp2_with fail
  go_ret2
  exact ⟨rfl, rfl⟩

set_option maxHeartbeats 400000 in
theorem inverse_nolen (k : Int) (ao : Option Addr) (n c : Nat) (w : World) (hT : Tab w) (hp : pr k ≠ 0) (hn : NoLog n) :
    Calls Tryd.prog 36 #[.int .i64 k, .slice ao n c] w fun e w' => e = .returned (.tuple #[.slice none 0 0, .int .i64 21]) ∧ w' = w := by
  have c1 : Hid _ := rootFor_nolen k n w hT hp hn
  clear hp hn
  go_enter Tryd.func36, Tryd.ntmps36
  go_wp2_with fail
  refine Calls.mono (Hid.out c1) ?_; rintro e w' ⟨rfl, hw'⟩; subst w'
  go_wp2_with fail
  go_ret2
  exact ⟨rfl, rfl⟩

/-! the way back -/
/-- The root's inverse, and the number's. -/
def ivr (k : Int) (m : Nat) : Int := md k (rt k m ^ (pr k - 2).toNat)
def ivn (k : Int) (m : Nat) : Int := md k (((2 : Int) ^ m) ^ (pr k - 2).toNat)
def idft (k : Int) (m n : Nat) (L : Nat → Int) (t : Nat) : Int := md k (dft k (ivr k m) n L t * ivn k m)
theorem ivr_mul (k : Int) (hp : pr k ≠ 0) (m : Nat) (hm : m ≤ 12) : Eqm k (rt k m * ivr k m) 1 := by
  unfold Eqm
  rw [md_one hp]
  exact inv_right k (rt k m) (rt_nonneg _ _) hp (rt_ne k hp m hm)
theorem ivn_mul (k : Int) (hp : pr k ≠ 0) (m : Nat) (hm : m ≤ 12) : Eqm k ((2 : Int) ^ m * ivn k m) 1 := by
  unfold Eqm
  rw [md_one hp]
  exact inv_right k (2 ^ m) (Int.pow_nonneg (by omega)) hp (len_ne k hp m hm)
theorem ivr_half (k : Int) (hp : pr k ≠ 0) (m : Nat) (hm : m ≤ 12) : m = 0 ∨ md k (ivr k m ^ (2 ^ (m - 1))) = pr k - 1 := by
  rcases rt_half k hp m hm with h | h
  · exact Or.inl h
  right
  have hx1 : Eqm k (rt k m ^ (2 ^ (m - 1))) (-1) := by
    refine Eqm.trans (b := pr k - 1) ?_ (Eqm.neg_one hp)
    unfold Eqm
    rw [← h, md_md]
  have h2 : Eqm k (ivr k m ^ (2 ^ (m - 1))) (pr k - 1) := by
    refine Eqm.trans ?_ (Eqm.neg_one hp).symm
    refine Eqm.trans (b := (rt k m * ivr k m) ^ (2 ^ (m - 1)) * (-1)) ?_ ?_
    · rw [Int.mul_pow, Int.mul_assoc, Int.mul_comm, Int.mul_assoc]
      refine Eqm.trans (Eqm.of ?_) (Eqm.rfl'.mul ((Eqm.rfl' (a := (-1 : Int))).mul hx1.symm))
      simp
    · refine Eqm.trans (((ivr_mul k hp m hm).pow _).mul Eqm.rfl') (Eqm.of ?_)
      rw [Int.one_pow]; rfl
  unfold Eqm at h2
  rw [h2]
  have := pr_pos hp
  exact md_of_lt (by omega) (by omega)

set_option maxHeartbeats 1000000 in
theorem inverse_yes (k : Int) (hp : pr k ≠ 0) (m n : Nat) (hn : n = 2 ^ m) (hm : m ≤ 12) (lb lo lc : Nat) (L : Nat → Int) (hL : ∀ t, 0 ≤ L t) (w : World) (hT : Tab w) (hl : Fam w lb lo n L) :
    Calls Tryd.prog 36 #[.int .i64 k, .slice (some ⟨lb, lo, none⟩) n lc] w fun e w' =>
      e = .returned (.tuple #[.slice (some ⟨w.heap.size, 0, none⟩) n n, .int .i64 0]) ∧ Fam w' w.heap.size 0 n (idft k m n L) ∧ Wrt w' w.heap.size 0 n ∧ Below w.heap.size w w' ∧ w.heap.size < w'.heap.size := by
  have hle : n ≤ 4096 := by rw [hn]; exact Nat.pow_le_pow_right (by omega) hm
  have hlt := tab_lt hT
  have c1 : Hid _ := rootFor_yes k n m w hT hp hm (pow_cast hn)
  have c2 : Hid _ := inv_yes k (rt k m) w hT (rt_nonneg _ _) (rt_ne k hp m hm)
  have c3 : Hid (Calls Tryd.prog 46 #[.int .i64 k, .int .u64 (n : Int)] w fun e w' => e = .returned (.tuple #[.int .u64 (ivn k m), .bool true]) ∧ w' = w) := by
    have := inv_yes k (n : Int) w hT (by omega) (by rw [pow_cast hn]; exact len_ne k hp m hm)
    rw [show md k ((n : Int) ^ (pr k - 2).toNat) = ivn k m by rw [pow_cast hn]; rfl] at this
    exact this
  have c4 : Hid _ := transformed_any k hp m n hn hm (ivr k m) (md_nonneg _ _) (ivr_half k hp m hm) lb lo lc L hL w hT hl
  have hD : Hid (idft k m n L = fun t => md k (dft k (ivr k m) n L t * ivn k m)) := rfl
  have hd0 : ∀ t, 0 ≤ dft k (ivr k m) n L t := fun t => dft_nonneg _ _ _ _ _
  have hi0 : 0 ≤ ivn k m := md_nonneg _ _
  rw [show md k (rt k m ^ (pr k - 2).toNat) = ivr k m from rfl] at c2
  rw [hD.out]
  clear hp hn hl hL hD
  generalize dft k (ivr k m) n L = D at *
  generalize ivr k m = y at *
  generalize ivn k m = c at *
  generalize rt k m = x at *
  go_enter Tryd.func36, Tryd.ntmps36
  go_wp2_with fail
  refine Calls.mono (Hid.out c1) ?_; rintro e w' ⟨rfl, hw'⟩; subst w'
  go_wp2_with fail
  refine Calls.mono (Hid.out c2) ?_; rintro e w' ⟨rfl, hw'⟩; subst w'
  go_wp2_with fail
  refine Calls.mono (Hid.out c3) ?_; rintro e w' ⟨rfl, hw'⟩; subst w'
  go_wp2_with fail
  refine Calls.mono (Hid.out c4) ?_; rintro e w1 ⟨rfl, h1, h2, h3, h4⟩
  have F0 : Hid (Fill w1 w1 w.heap.size n 0 (fun t => md k (D t * c)) D) := Fill.start _ h1 h2
  have hT1 : Tab w1 := hT.below h3 hlt
  have B1 : Hid _ := h3
  clear h1 h2 h3 c1 c2 c3 c4 hT
  go_wp2_with fail
  go_loopw [44] (fun vi wr => ∃ i : Nat, i ≤ n ∧ vi = .int .i64 i ∧ Fill w1 wr w.heap.size n i (fun t => md k (D t * c)) D) (fun vi _ => n - (intOf vi).toNat)
  case atStart => exact ⟨0, Nat.zero_le _, rfl, F0.out⟩
  case round =>
    obtain ⟨i, hi, rfl, hF⟩ := hrel
    have HF : Hid _ := hF
    have hf := hF.wrt.zero
    have hTr : Tab wr := hT1.wrote hF.wrote (fun o e => by omega)
    by_cases hlt2 : i < n
    · have hc : wr.cell? ⟨w.heap.size, i, none⟩ = some (.int .u64 (D i)) := by rw [hF.fam.zero i hlt2, mix_hi (Nat.le_refl _)]
      have HS : Hid _ := HF.out.step hlt2 (x := md k (D i * c)) rfl
      have hdi := hd0 i
      clear HF hF
      go_wp2_with fail
      refine Calls.mono (mul_any k (D i) c wr hTr hdi hi0) ?_; rintro e w' ⟨rfl, hw'⟩; subst w'
      go_wp2_with fail
      go_roundw
      case rel => exact ⟨i + 1, by omega, by go_num, HS.out⟩
      case measure => simp [intOf]; omega
    · have H1 : Hid (Fam wr w.heap.size 0 n (fun t => md k (D t * c))) := HF.out.fin (by omega)
      have H2 : Hid (Wrt wr w.heap.size 0 n) := hF.wrt
      have H3 : Hid (Below w.heap.size w wr) := B1.out.trans (HF.out.wrote.below (fun b o e => by omega))
      have H4 : Hid (w.heap.size < wr.heap.size) := by show w.heap.size < wr.heap.size; rw [HF.out.wrote.size]; exact h4
      clear hF HF hf
      go_wp2_with fail
      go_ret2
      exact ⟨rfl, H1.out, H2.out, H3.out, H4.out⟩
end Go.Proofs.YtcppcfbcgopmoaaDoor
