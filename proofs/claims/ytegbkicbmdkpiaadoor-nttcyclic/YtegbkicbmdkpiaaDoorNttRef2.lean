/- Contracts of the document's own answers of layer 2, on: Forward, Inverse; and of Same. -/
import Derived.Test.YtegbkicbmdkpiaaDoorNttRef
namespace Go.Proofs.YtegbkicbmdkpiaaDoor
open Go.RowKit Res

theorem refSums_fam (k : Int) (hp : pr k ≠ 0) (n : Nat) (hle : n ≤ 4096) (h1n : 1 ≤ n) (r : Int) (hr : 0 ≤ r) (lb lo lc : Nat) (L : Nat → Int) (hL : ∀ t, 0 ≤ L t) (w : World) (hl : Fam w lb lo n L) :
    Calls Tryd.prog 28 #[.int .i64 k, .slice (some ⟨lb, lo, none⟩) n lc, .int .u64 r] w fun e w' =>
      ∃ g cap, e = .returned (.slice (some ⟨g, 0, none⟩) n cap) ∧ w.heap.size ≤ g ∧ g < w'.heap.size ∧ Fam w' g 0 n (dft k r n L) ∧ Below w.heap.size w w' := by
  refine (refSums_any k hp n hle h1n r hr lb lo lc L hL w hl).mono ?_
  rintro e w' ⟨v, rfl, hown, hb⟩
  obtain ⟨g, cap, rfl, hg, hlt, hf, _⟩ := own_fam hown h1n
  exact ⟨g, cap, rfl, hg, hlt, hf, hb⟩

set_option maxHeartbeats 400000 in
theorem refForward_noprime (k : Int) (ao : Option Addr) (n c : Nat) (w : World) (hp : pr k = 0) :
    Calls Tryd.prog 14 #[.int .i64 k, .slice ao n c] w fun e w' => e = .returned (.tuple #[.slice none 0 0, .int .i64 20]) ∧ w' = w := by
  have c1 : Hid _ := check_noprime k n w hp
  clear hp
  go_enter Tryd.func14, Tryd.ntmps14
  go_wp2_with fail
  refine Calls.mono (Hid.out c1) ?_; rintro e w' ⟨rfl, hw'⟩; subst w'
  go_wp2_with fail
  go_ret2
  exact ⟨rfl, rfl⟩

set_option maxHeartbeats 400000 in
theorem refForward_nolen (k : Int) (ao : Option Addr) (n c : Nat) (w : World) (hp : pr k ≠ 0) (hn : NoLog n) :
    Calls Tryd.prog 14 #[.int .i64 k, .slice ao n c] w fun e w' => e = .returned (.tuple #[.slice none 0 0, .int .i64 21]) ∧ w' = w := by
  have c1 : Hid _ := check_nolen k n w hp hn
  clear hp hn
  go_enter Tryd.func14, Tryd.ntmps14
  go_wp2_with fail
  refine Calls.mono (Hid.out c1) ?_; rintro e w' ⟨rfl, hw'⟩; subst w'
  go_wp2_with fail
  go_ret2
  exact ⟨rfl, rfl⟩

set_option maxHeartbeats 400000 in
theorem refForward_yes (k : Int) (hp : pr k ≠ 0) (m n : Nat) (hn : n = 2 ^ m) (hm : m ≤ 12) (lb lo lc : Nat) (L : Nat → Int) (hL : ∀ t, 0 ≤ L t) (w : World) (hl : Fam w lb lo n L) :
    Calls Tryd.prog 14 #[.int .i64 k, .slice (some ⟨lb, lo, none⟩) n lc] w fun e w' =>
      ∃ g cap, e = .returned (.tuple #[.slice (some ⟨g, 0, none⟩) n cap, .int .i64 0]) ∧ w.heap.size ≤ g ∧ g < w'.heap.size ∧ Fam w' g 0 n (dft k (rt k m) n L) ∧ Below w.heap.size w w' := by
  have hle : n ≤ 4096 := by rw [hn]; exact Nat.pow_le_pow_right (by omega) hm
  have hpos : 1 ≤ n := by rw [hn]; exact Nat.one_le_two_pow
  have c1 : Hid _ := check_yes k n m w hp hm (pow_cast hn)
  have c2 : Hid _ := refLog_yes n m hm (pow_cast hn) w
  have c3 : Hid _ := refRoot_yes k m w hp (by omega) (by omega)
  rw [Int.toNat_natCast, show md k (3 ^ ((pr k - 1).toNat / 2 ^ m)) = rt k m from rfl] at c3
  have c4 : Hid _ := refSums_fam k hp n hle hpos (rt k m) (rt_nonneg _ _) lb lo lc L hL w hl
  clear hp hn hl hL
  generalize rt k m = x at *
  go_enter Tryd.func14, Tryd.ntmps14
  go_wp2_with fail
  refine Calls.mono (Hid.out c1) ?_; rintro e w' ⟨rfl, hw'⟩; subst w'
  go_wp2_with fail
  refine Calls.mono (Hid.out c2) ?_; rintro e w' ⟨rfl, hw'⟩; subst w'
  go_wp2_with fail
  refine Calls.mono (Hid.out c3) ?_; rintro e w' ⟨rfl, hw'⟩; subst w'
  go_wp2_with fail
  refine Calls.mono (Hid.out c4) ?_; rintro e w1 ⟨g, cap, rfl, h1, h2, h3, h4⟩
  have H3 : Hid _ := h3
  have H4 : Hid _ := h4
  clear h3 h4
  go_wp2_with fail
  go_ret2
  exact ⟨g, cap, rfl, h1, h2, H3.out, H4.out⟩

set_option maxHeartbeats 400000 in
theorem refInverse_noprime (k : Int) (ao : Option Addr) (n c : Nat) (w : World) (hp : pr k = 0) :
    Calls Tryd.prog 17 #[.int .i64 k, .slice ao n c] w fun e w' => e = .returned (.tuple #[.slice none 0 0, .int .i64 20]) ∧ w' = w := by
  have c1 : Hid _ := check_noprime k n w hp
  clear hp
  go_enter Tryd.func17, Tryd.ntmps17
  go_wp2_with fail
  refine Calls.mono (Hid.out c1) ?_; rintro e w' ⟨rfl, hw'⟩; subst w'
  go_wp2_with fail
  go_ret2
  exact ⟨rfl, rfl⟩

set_option maxHeartbeats 400000 in
theorem refInverse_nolen (k : Int) (ao : Option Addr) (n c : Nat) (w : World) (hp : pr k ≠ 0) (hn : NoLog n) :
    Calls Tryd.prog 17 #[.int .i64 k, .slice ao n c] w fun e w' => e = .returned (.tuple #[.slice none 0 0, .int .i64 21]) ∧ w' = w := by
  have c1 : Hid _ := check_nolen k n w hp hn
  clear hp hn
  go_enter Tryd.func17, Tryd.ntmps17
  go_wp2_with fail
  refine Calls.mono (Hid.out c1) ?_; rintro e w' ⟨rfl, hw'⟩; subst w'
  go_wp2_with fail
  go_ret2
  exact ⟨rfl, rfl⟩

set_option maxHeartbeats 1000000 in
theorem refInverse_yes (k : Int) (hp : pr k ≠ 0) (m n : Nat) (hn : n = 2 ^ m) (hm : m ≤ 12) (lb lo lc : Nat) (L : Nat → Int) (hL : ∀ t, 0 ≤ L t) (w : World) (hl : Fam w lb lo n L) :
    Calls Tryd.prog 17 #[.int .i64 k, .slice (some ⟨lb, lo, none⟩) n lc] w fun e w' =>
      ∃ g cap, e = .returned (.tuple #[.slice (some ⟨g, 0, none⟩) n cap, .int .i64 0]) ∧ w.heap.size ≤ g ∧ g < w'.heap.size ∧ Fam w' g 0 n (idft k m n L) ∧ Below w.heap.size w w' := by
  have hle : n ≤ 4096 := by rw [hn]; exact Nat.pow_le_pow_right (by omega) hm
  have hpos : 1 ≤ n := by rw [hn]; exact Nat.one_le_two_pow
  obtain ⟨i0, hi, hz0, hz1, hz2⟩ := info_parts infoU
  have c1 : Hid _ := check_yes k n m w hp hm (pow_cast hn)
  have c2 : Hid _ := refLog_yes n m hm (pow_cast hn) w
  have c3 : Hid _ := refRoot_yes k m w hp (by omega) (by omega)
  rw [Int.toNat_natCast, show md k (3 ^ ((pr k - 1).toNat / 2 ^ m)) = rt k m from rfl] at c3
  have c4 : Hid _ := refInv_yes k (rt k m) w (rt_nonneg _ _) (rt_ne k hp m hm)
  rw [show md k (rt k m ^ (pr k - 2).toNat) = ivr k m from rfl] at c4
  have c5 : Hid (∀ v, Calls Tryd.prog 30 #[.int .i64 k, .int .u64 (n : Int)] v fun e w' => e = .returned (.tuple #[.int .u64 (ivn k m), .bool true]) ∧ ∃ q, w' = v.drewN q) := fun v => by
    have := refInv_yes k (n : Int) v (by omega) (by rw [pow_cast hn]; exact len_ne k hp m hm)
    rw [show md k ((n : Int) ^ (pr k - 2).toNat) = ivn k m by rw [pow_cast hn]; rfl] at this
    exact this
  have c6 : Hid _ := fun (v : World) (hv : Fam v lb lo n L) => refSums_fam k hp n hle hpos (ivr k m) (md_nonneg _ _) lb lo lc L hL v hv
  have hD : Hid (idft k m n L = fun t => md k (dft k (ivr k m) n L t * ivn k m)) := rfl
  have hd0 : ∀ t, 0 ≤ dft k (ivr k m) n L t := fun t => dft_nonneg _ _ _ _ _
  have hi0 : 0 ≤ ivn k m := md_nonneg _ _
  rw [hD.out]
  clear hp hn hL hD
  generalize dft k (ivr k m) n L = D at *
  generalize ivr k m = y at *
  generalize ivn k m = c at *
  generalize rt k m = x at *
  have Hl : Hid _ := hl
  clear hl
  go_enter Tryd.func17, Tryd.ntmps17
  go_wp2_with fail
  refine Calls.mono (Hid.out c1) ?_; rintro e w' ⟨rfl, hw'⟩; subst w'
  go_wp2_with fail
  refine Calls.mono (Hid.out c2) ?_; rintro e w' ⟨rfl, hw'⟩; subst w'
  go_wp2_with fail
  refine Calls.mono (Hid.out c3) ?_; rintro e w' ⟨rfl, hw'⟩; subst w'
  go_wp2_with fail
  refine Calls.mono (Hid.out c4) ?_; rintro e w' ⟨rfl, q, hw'⟩; subst w'
  go_wp2_with fail
  refine Calls.mono (Hid.out (c5.out (w.drewN q))) ?_; rintro e w' ⟨rfl, q2, hw'⟩; subst w'
  go_wp2_with fail
  refine Calls.mono (Hid.out (c6.out _ Hl.out)) ?_; rintro e w2 ⟨g, cap, rfl, h1, h2, h3, h4⟩
  have B2 : Hid (Below w.heap.size w w2) := ⟨h4.os, h4.tape, h4.output, h4.size, h4.block⟩
  have hgw : w.heap.size ≤ g := h1
  have F2 : Hid (Fam w2 g 0 n D) := h3
  clear h1 h3 h4 c1 c2 c3 c4 c5 c6 Hl
  go_wp2_with fail
  go_loopw [16, 17] (fun v vj wr => ∃ j : Nat, j ≤ n ∧ vj = .int .i64 j ∧ Own wr w2.heap.size v j (fun t => md k (D t * c)) ∧ Below w2.heap.size w2 wr) (fun _ vj _ => n - (intOf vj).toNat)
  case atStart => exact ⟨0, Nat.zero_le _, rfl, own_nil _ _ _, Below.refl _ _⟩
  case round =>
    obtain ⟨j, hj, rfl, hown, hbel⟩ := hrel
    have Hown : Hid _ := hown
    have Hbel : Hid _ := hbel
    have hsz : w2.heap.size ≤ wr.heap.size := hbel.size
    by_cases hlt : j < n
    · have hc : wr.cell? ⟨g, j, none⟩ = some (.int .u64 (D j)) := (F2.out.below hbel h2).zero j hlt
      have hdj := hd0 j
      clear hbel
      unfold Own at hown
      go_wp2_with fail
      refine Calls.mono (refMul_any k (D j) c _ hdj hi0) ?_; rintro e w' ⟨rfl, hw'⟩; subst w'
      go_wp2_with (at_builtin; refine wpList_append_own _ rfl _ _ 26 rfl w2.heap.size 32 i0 (.int .u64 0) 1 8 Tryd.underlying26 hi hz0 hz1 hz2 rfl (by decide) _ _ _ rfl (hown.alloc _) ⟨wr.heap.size, 0, none⟩ 1 1 [.int .u64 (md k (D j * c))] rfl rfl ?c1 ?c2 ?c3 ?c4 ?c5 ?_)
      case c1 =>
        intro j' u hj'
        match j', hj' with
        | 0, hj' => simp at hj'; subst hj'; simp [Addr.add]
      case c2 => intro u hu; simp at hu; subst hu; rfl
      case c3 => unfold maxLen; omega
      case c4 => omega
      case c5 => simp; omega
      · intro v' w1 hown' hgrow _
        have HR : Hid _ := own_step (D := fun t => md k (D t * c)) rfl hsz Hbel.out Hown.out hown' hgrow
        clear hown' hgrow hown Hown Hbel hc
        go_wp2_with fail
        go_roundw
        case rel => exact ⟨j + 1, by omega, by go_num, HR.out.1, HR.out.2⟩
        case measure => simp [intOf]; omega
    · have hjn : j = n := by omega
      subst hjn
      obtain ⟨g', cap', rfl, hg', hlt', hf', _⟩ := own_fam hown hpos
      have H5 : Hid _ := hf'
      have H6 : Hid (Below w.heap.size w wr) := B2.out.trans (hbel.mono B2.out.size)
      have hgg : w.heap.size ≤ g' := Nat.le_trans B2.out.size hg'
      clear hown hbel hf' Hown Hbel
      go_wp2_with fail
      go_ret2
      exact ⟨g', ⟨cap', rfl⟩, hgg, hlt', H5.out, H6.out⟩

/-! Same -/
set_option maxHeartbeats 400000 in
theorem same_nil (ao bo : Option Addr) (ca cb : Nat) (w : World) : Calls Tryd.prog 15 #[.slice ao 0 ca, .slice bo 0 cb] w fun e w' => e = .returned (.bool true) ∧ ∃ q, w' = w.drewN q := by
  go_enter Tryd.func15, Tryd.ntmps15
  go_wp2_with fail
  go_loop [5] (fun vi => vi = .int .i64 0) (fun _ => 0)
  case atStart => rfl
  case round =>
    subst hrel
    go_wp2_with fail
    go_ret
    exact ⟨rfl, 0, rfl⟩

set_option maxHeartbeats 1000000 in
theorem same_fam (n : Nat) (hle : n ≤ 1152921504606846976) (ab ao ca bb bo cb : Nat) (G H : Nat → Int) (hGH : ∀ t, t < n → G t = H t) (w : World) (ha : Fam w ab ao n G) (hb : Fam w bb bo n H) :
    Calls Tryd.prog 15 #[.slice (some ⟨ab, ao, none⟩) n ca, .slice (some ⟨bb, bo, none⟩) n cb] w fun e w' => e = .returned (.bool true) ∧ ∃ q, w' = w.drewN q := by
  have ha' : ∀ t, t < n → w.cell? ⟨ab, ao + t, none⟩ = some (.int .u64 (H t)) := fun t ht => by rw [ha t ht, hGH t ht]
  clear ha hGH
  unfold Fam at hb
  go_enter Tryd.func15, Tryd.ntmps15
  go_wp2_with fail
  go_loopw [5] (fun vi wx => ∃ i : Nat, i ≤ n ∧ vi = .int .i64 i ∧ ∃ q, wx = w.drewN q) (fun vi _ => n - (intOf vi).toNat)
  case atStart => exact ⟨0, Nat.zero_le _, rfl, 0, rfl⟩
  case round =>
    obtain ⟨i, hi, rfl, q, hwx⟩ := hrel
    have HW : Hid _ := hwx
    have ha2 : ∀ t, t < n → wr.cell? ⟨ab, ao + t, none⟩ = some (.int .u64 (H t)) := fun t ht => by rw [hwx]; exact ha' t ht
    have hb2 : ∀ t, t < n → wr.cell? ⟨bb, bo + t, none⟩ = some (.int .u64 (H t)) := fun t ht => by rw [hwx]; exact hb t ht
    clear hwx ha' hb
    by_cases hlt : i < n
    · go_wp2_with fail
      go_quiet (fail)
      go_wp2_with fail
      go_roundw
      case rel =>
        refine ⟨i + 1, by omega, by go_num, q + nq, ?_⟩
        rw [HW.out]
        exact World.drewN_drewN _ _ _
      case measure => simp [intOf]; omega
    · go_wp2_with fail
      go_ret
      exact ⟨rfl, q, HW.out⟩
end Go.Proofs.YtegbkicbmdkpiaaDoor
