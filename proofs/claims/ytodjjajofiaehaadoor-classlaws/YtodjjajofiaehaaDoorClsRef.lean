/- Contracts of the document's own answers of layer 6: Has, bytes, Make. -/
import Derived.Test.YtodjjajofiaehaaDoorClsRow
import Derived.Test.YtodjjajofiaehaaDoorClsOf
import Derived.Test.YtodjjajofiaehaaDoorClsPop
namespace Go.Proofs.YtodjjajofiaehaaDoor
open Go.RowKit
namespace Cls

theorem div_step (x k : Nat) : x / 2 ^ (k + 1) = x / 2 ^ k / 2 := by rw [Nat.pow_succ, Nat.div_div_eq_div_mul]

set_option maxHeartbeats 1000000 in
theorem refHas_any (f : Nat → Bool) (b : Nat) (hb : b < 256) (w : World) :
    Calls Tryd.prog 23 #[.agg #[.int .u64 ((wd (f) 0 : Nat) : Int), .int .u64 ((wd (f) 1 : Nat) : Int), .int .u64 ((wd (f) 2 : Nat) : Int), .int .u64 ((wd (f) 3 : Nat) : Int)], .int .u8 b] w fun e w' => e = .returned (.bool (f b)) ∧ Below w.heap.size w w' := by
  obtain ⟨k, hk⟩ : ∃ k, b / 64 = k := ⟨_, rfl⟩
  obtain ⟨i, hi⟩ : ∃ i, b % 64 = i := ⟨_, rfl⟩
  have hk4 : k < 4 := by omega
  have hi64 : i < 64 := by omega
  have hq : (b : Int) / 64 = (k : Int) := by omega
  have hr : (b : Int) % 64 = (i : Int) := by omega
  obtain ⟨w1, b1⟩ := box w f
  have E1 : Hid _ := b1.eq
  have B1 : Hid (Below w.heap.size w w1) := b1.bel
  have hck : w1.cell? ⟨w.heap.size, k, none⟩ = some (.int .u64 (wd f k : Nat)) := b1.fam.zero k hk4
  have hlast : Hid ((wd f k / 2 ^ i % 2 : Nat) = (f b).toNat) := by
    have := has_at f k i hi64
    rwa [show 64 * k + i = b by omega] at this
  have hx0 : Hid (wd f k = wd f k / 2 ^ 0) := by show _ = _; simp
  clear b1 hk hi
  go_enter Tryd.func23, Tryd.ntmps23
  go_wp2_with (first | rw [← E1.out] | simp only [get4 f k hk4])
  clear E1
  go_loopw [5, 6] (fun vx vj wr => wr = w1 ∧ ∃ j : Nat, j ≤ i ∧ vj = .int .i64 j ∧ vx = .int .u64 ((wd f k / 2 ^ j : Nat) : Int)) (fun _ vj _ => i - (intOf vj).toNat)
  case atStart => exact ⟨rfl, 0, Nat.zero_le _, rfl, by rw [← hx0.out]⟩
  case round =>
    obtain ⟨rfl, j, hj, rfl, rfl⟩ := hrel
    by_cases hji : j < i
    · have hs : Hid _ := div_step (wd f k) j
      have hjI : (j : Int) < (i : Int) := by omega
      have hX : wd f k / 2 ^ j < 18446744073709551616 := Nat.lt_of_le_of_lt (Nat.div_le_self _ _) (wd_lt f k)
      generalize wd f k / 2 ^ j = X at *
      have hX' : (X : Int) / 2 < 18446744073709551616 := by omega
      have hw : IntKind.u64.wrap ((X : Int) / 2) = (X : Int) / 2 := by rw [IntKind.wrap_u64]; omega
      go_wp2_with fail
      go_roundw
      case rel => exact ⟨trivial, j + 1, by omega, by go_num, by rw [hs.out]; go_num⟩
      case measure => simp [intOf]; omega
    · obtain rfl : j = i := by omega
      have hl := hlast.out
      generalize wd f k / 2 ^ j = X at *
      have hl2 : ((X : Int) % 2 == 1) = f b := by
        rw [show (X : Int) % 2 = ((X % 2 : Nat) : Int) by omega, hl]
        cases f b <;> rfl
      clear hl hlast
      go_wp2_with fail
      go_ret
      exact ⟨by first | rfl | (rw [← hl2]; rfl), B1.out⟩

theorem infoB : ∃ i, Tryd.prog.info? 4 = some i ∧ i.zero = some (.bool false) ∧ i.size = 1 ∧ i.bytes = 1 := by
  have h : (Tryd.prog.info? 4).map (fun i => (i.zero, i.size, i.bytes)) = some (some (.bool false), 1, 1) := by kernel_rfl
  obtain ⟨i, hi, hz⟩ := Option.map_eq_some_iff.1 h
  simp only [Prod.mk.injEq] at hz
  exact ⟨i, hi, hz.1, hz.2.1, hz.2.2⟩

set_option maxHeartbeats 1000000 in
theorem refBytes_any (f : Nat → Bool) (w : World) :
    Calls Tryd.prog 30 #[.agg #[.int .u64 ((wd (f) 0 : Nat) : Int), .int .u64 ((wd (f) 1 : Nat) : Int), .int .u64 ((wd (f) 2 : Nat) : Int), .int .u64 ((wd (f) 3 : Nat) : Int)]] w fun e w' => ∃ g cap, e = .returned (.slice (some ⟨g, 0, none⟩) 256 cap) ∧ w.heap.size ≤ g ∧ g < w'.heap.size ∧ Fv w' g 256 (bo f) ∧ Wrt w' g 0 256 ∧ Below w.heap.size w w' := by
  obtain ⟨w1, b1⟩ := box w f
  have E1 : Hid _ := b1.eq
  have B1 : Hid (Below w.heap.size w w1) := b1.bel
  have F1 : Hid (Fam w1 w.heap.size 0 4 (wi f)) := b1.fam
  have s1 : w.heap.size < w1.heap.size := by have := b1.size; omega
  obtain ⟨i0, hi, hz0, hz1, hz2⟩ := infoB
  clear b1
  go_enter Tryd.func30, Tryd.ntmps30
  go_wp2_with fail
  rw [← E1.out]
  clear E1
  go_loopw [3, 4] (fun v vj wr => ∃ j : Nat, j ≤ 256 ∧ vj = .int .i64 j ∧ OwnB wr w1.heap.size v j f ∧ Below w1.heap.size w1 wr) (fun _ vj _ => 256 - (intOf vj).toNat)
  case atStart => exact ⟨0, Nat.zero_le _, rfl, World.ownsRow_nil _ _ _ _, Below.refl _ _⟩
  case round =>
    obtain ⟨j, hj, rfl, hown, hbel⟩ := hrel
    by_cases hlt : j < 256
    · obtain ⟨a0, a1, a2, a3⟩ := c4 (F1.out.below hbel s1)
      have c1 : Hid _ := refHas_any f j hlt wr
      have Hown : Hid (OwnB wr w1.heap.size u3 j f) := hown
      have Hbel : Hid _ := hbel
      have hjI : (j : Int) < 256 := by omega
      clear hbel hown
      go_wp2_with fail
      refine Calls.mono (Hid.out c1) ?_; rintro e w2 ⟨rfl, b2⟩
      have O2 : w2.ownsRow w1.heap.size 4 1 u3 j (cbs f j) := owns_below Hown.out b2 (Nat.le_refl _)
      have BB : Hid (Below w1.heap.size w1 w2) := Hbel.out.trans (b2.mono Hbel.out.size)
      have hsz : w1.heap.size ≤ w2.heap.size := BB.out.size
      clear b2 Hown Hbel a0 a1 a2 a3
      go_wp2_with (at_builtin; refine wpList_append_own _ rfl _ _ 42 rfl w1.heap.size 4 i0 (.bool false) 1 1 Tryd.underlying42 hi hz0 hz1 hz2 rfl (by decide) _ _ _ rfl (O2.alloc _) ⟨w2.heap.size, 0, none⟩ 1 1 [.bool (f j)] rfl rfl ?c1 ?c2 ?c3 ?c4 ?c5 ?_)
      case c1 =>
        intro j' u hj'
        match j', hj' with
        | 0, hj' => simp at hj'; subst hj'; simp [Addr.add]
      case c2 => intro u hu; simp at hu; subst hu; rfl
      case c3 => unfold maxLen; omega
      case c4 => omega
      case c5 => simp; omega
      · intro v' w3 hown' hgrow _
        have HR : Hid (Below w1.heap.size w1 w3) := grow_below hsz BB.out O2 hgrow
        have HO : Hid (OwnB w3 w1.heap.size v' (j + 1) f) := by show OwnB _ _ _ _ _; unfold OwnB; rw [cbs_succ]; exact hown'
        clear hown' hgrow O2 BB
        go_wp2_with fail
        go_roundw
        case rel => exact ⟨j + 1, by omega, by go_num, HO.out, HR.out⟩
        case measure => simp [intOf]; omega
    · obtain rfl : j = 256 := by omega
      obtain ⟨g, cap, rfl, hg, hgl, hF, hW⟩ := ownB_fam hown (by omega)
      have H6 : Hid (Below w.heap.size w wr) := B1.out.trans (hbel.mono B1.out.size)
      have H7 : Hid (Fv wr g 256 (bo f) ∧ Wrt wr g 0 256) := ⟨hF, hW⟩
      clear hown hbel hF hW
      go_wp2_with fail
      go_ret
      exact ⟨g, cap, rfl, by omega, hgl, H7.out.1, H7.out.2, H6.out⟩
end Cls
end Go.Proofs.YtodjjajofiaehaaDoor
