/- Contract of the document's Kinds. -/
import Derived.Test.YtcohcdebbkfdfaaDoorLfOwn
import Derived.Test.YtcohcdebbkfdfaaDoorLfRef
namespace Go.Proofs.YtcohcdebbkfdfaaDoor
open Go.RowKit
namespace Cls

/-- Is c among the first k of L? -/
def mt (L : List (Nat → Bool)) (c : Nat → Bool) (k : Nat) : Bool := (L.take k).any fun g => sm g c

theorem mt_zero (L : List (Nat → Bool)) (c : Nat → Bool) : mt L c 0 = false := by simp [mt]

theorem mt_succ (L : List (Nat → Bool)) (c : Nat → Bool) (k : Nat) (h : k < L.length) : mt L c (k + 1) = (mt L c k || sm (at' L k) c) := by
  unfold mt
  rw [List.take_succ_eq_append_getElem h, List.any_append, at_get h]
  simp

theorem mt_end (L : List (Nat → Bool)) (c : Nat → Bool) : mt L c L.length = L.any fun g => sm g c := by simp [mt]

theorem kd_no {P : Nat → Nat → Bool} {n : Nat} (h : (fr (P n) || mt (kd P n) (P n) (kd P n).length) = true) : kd P (n + 1) = kd P n := by
  rw [kd, mt_end] at *
  rw [if_pos h]

theorem kd_new {P : Nat → Nat → Bool} {n : Nat} (h : (fr (P n) || mt (kd P n) (P n) (kd P n).length) = false) : kd P (n + 1) = kd P n ++ [P n] := by
  rw [kd, mt_end] at *
  rw [if_neg (by rw [h]; simp)]

set_option maxHeartbeats 2000000 in
theorem refKinds_any (P : Nat → Nat → Bool) (n cap : Nat) (ao : Option Addr) (K : Int) (w : World) (hl : Lf w ao n P) :
    Calls Tryd.prog 25 #[.agg #[.slice ao n cap, .int .i64 K]] w fun e w' => (∃ bo d, e = .returned (.slice bo (kd P n).length d) ∧ Lf w' bo (kd P n).length (at' (kd P n))) ∧ Below w.heap.size w w' := by
  obtain ⟨w1, b1⟩ := lbox w (.slice ao n cap) (.int .i64 K)
  have E1 : Hid _ := b1.eq
  have B1 : Hid (Below w.heap.size w w1) := b1.bel
  have HC : Hid (w1.cell? ⟨w.heap.size, 0, none⟩ = some (.slice ao n cap) ∧ w1.cell? ⟨w.heap.size, 1, none⟩ = some (.int .i64 K)) := ⟨b1.c0, b1.c1⟩
  have s1 : w.heap.size < w1.heap.size := by have := b1.size; omega
  have HL : Hid (Lf w1 ao n P) := hl.grow b1.bel
  have hn := hl.small
  obtain ⟨i0, hi, hz0, hz1, hz2⟩ := infoC
  clear b1 hl
  go_enter Tryd.func25, Tryd.ntmps25
  go_wp2_with (first | rw [← E1.out])
  clear E1
  go_loopw [3, 4] (fun vo vk wr => Below w1.heap.size w1 wr ∧ ∃ k : Nat, k ≤ n ∧ vk = .int .i64 k ∧ OwnC wr w1.heap.size vo (kd P k)) (fun _ vk _ => n - (intOf vk).toNat)
  case atStart => exact ⟨Below.refl _ _, 0, Nat.zero_le _, rfl, ownC_nil _ _⟩
  case round =>
    rename World => wo
    obtain ⟨hbel, i, hk, rfl, hown⟩ := hrel
    have HB : Hid _ := hbel
    have HO : Hid _ := hown
    have HLr : Hid (Lf wo ao n P) := HL.out.grow hbel
    have hc := (two_below HC.out hbel s1).1
    have hlen := kd_len P i
    clear hbel hown
    by_cases hin : i < n
    · obtain ⟨b, o, rfl, hb, hC⟩ := HLr.out.lies (by omega)
      obtain ⟨c0, c1, c2, c3⟩ := hC.four hin
      have hiI : (i : Int) < (n : Int) := by omega
      have cc : Hid _ := refFree_any (P i) wo
      obtain ⟨bo, d, rfl, hLo⟩ := ownC_lf HO.out (by omega)
      have HLo : Hid _ := hLo
      clear hC hLo
      go_wp2_with fail
      refine Calls.mono (Hid.out cc) ?_; rintro e w2 ⟨rfl, b2⟩
      have HB2 : Hid (Below w1.heap.size w1 w2) := HB.out.trans (b2.mono HB.out.size)
      have HO2 : Hid (OwnC w2 w1.heap.size (.slice bo (kd P i).length d) (kd P i)) := owns_below HO.out b2 (Nat.le_refl _)
      have HK2 : Hid (Lf w2 bo (kd P i).length (at' (kd P i))) := HLo.out.grow b2
      have HM : Hid (mt (kd P i) (P i) 0 = false) := mt_zero _ _
      have HP2 : Hid (Lf w2 (some ⟨b, o, none⟩) n P) := HLr.out.grow b2
      have HC2 : Hid _ := two_below (two_below HC.out HB.out s1) b2 (Nat.lt_of_lt_of_le s1 HB.out.size)
      have s2 : w.heap.size < w2.heap.size := Nat.lt_of_lt_of_le s1 HB2.out.size
      have HMs : Hid _ := mt_succ (kd P i) (P i)
      have HNo : Hid _ := kd_no (P := P) (n := i)
      have HNew : Hid _ := kd_new (P := P) (n := i)
      clear b2 c0 c1 c2 c3 hc cc HLo HO HB HLr
      obtain ⟨m, hm⟩ : ∃ m, (kd P i).length = m := ⟨_, rfl⟩
      have HMl : Hid _ := hm
      rw [hm] at HK2 HNo HNew hlen
      rw [hm] at HO2
      rw [hm]
      clear hm
      go_wp2_with fail
      go_loopw [5, 6] (fun vm vk wr => Below w2.heap.size w2 wr ∧ ∃ k : Nat, k ≤ m ∧ vk = .int .i64 k ∧ vm = .bool (fr (P i) || mt (kd P i) (P i) k)) (fun _ vk _ => m - (intOf vk).toNat)
      case atStart => exact ⟨Below.refl _ _, 0, Nat.zero_le _, rfl, by rw [HM.out]; simp⟩
      case round =>
        obtain ⟨hbel, k, hk, rfl, rfl⟩ := hrel
        have HBr : Hid _ := hbel
        have HKr : Hid (Lf wr bo m (at' (kd P i))) := HK2.out.grow hbel
        have HPr : Hid (Lf wr (some ⟨b, o, none⟩) n P) := HP2.out.grow hbel
        have hc := (two_below HC2.out hbel s2).1
        obtain ⟨bb, oo, eo, hb2, hP⟩ := HPr.out.lies (by omega)
        injection eo with eo
        injection eo with eb eo _
        subst eb
        subst eo
        obtain ⟨c0, c1, c2, c3⟩ := hP.four hin
        clear hbel hP
        by_cases hkm : k < m
        · have hkI : (k : Int) < (m : Int) := by omega
          have HMk : Hid _ := HMs.out k (by rw [HMl.out]; exact hkm)
          obtain ⟨b', o', rfl, hb', hD⟩ := HKr.out.lies (by omega)
          obtain ⟨d0, d1, d2, d3⟩ := hD.four hkm
          clear hD
          cases hz : (fr (P i) || mt (kd P i) (P i) k) with
          | true =>
            have HZ : Hid ((fr (P i) || mt (kd P i) (P i) (k + 1)) = true) := by
              show _ = _
              rw [HMk.out, ← Bool.or_assoc, hz]; rfl
            go_wp2_with fail
            go_quiet (fail)
            have HB3 : Hid (Below w2.heap.size w2 (wr.drewN nq)) := below_drewN HBr.out nq
            go_wp2_with fail
            go_roundw
            case rel => exact ⟨HB3.out, k + 1, by omega, by go_num, by rw [HZ.out]⟩
            case measure => simp [intOf]; omega
          | false =>
            have HZ : Hid ((fr (P i) || mt (kd P i) (P i) (k + 1)) = sm (at' (kd P i) k) (P i)) := by
              show _ = _
              rw [HMk.out, ← Bool.or_assoc, hz]; rfl
            go_wp2_with fail
            go_quiet (fail)
            have HB3 : Hid (Below w2.heap.size w2 (wr.drewN nq)) := below_drewN HBr.out nq
            go_wp2_with fail
            go_roundw
            case rel => exact ⟨HB3.out, k + 1, by omega, by go_num, by rw [HZ.out]⟩
            case measure => simp [intOf]; omega
        · obtain rfl : k = m := by omega
          have HB3 : Hid (Below w1.heap.size w1 wr) := HB2.out.trans (HBr.out.mono HB2.out.size)
          have O3 : wr.ownsRow w1.heap.size 35 4 (.slice bo k d) k (cls (kd P i)) := by
            have h := owns_below HO2.out HBr.out (Nat.le_refl _)
            rwa [HMl.out] at h
          have hsz : w1.heap.size ≤ wr.heap.size := HB3.out.size
          cases hz : (fr (P i) || mt (kd P i) (P i) k) with
          | true =>
            have HZ : Hid _ := HNo.out hz
            have HO3 : Hid (OwnC wr w1.heap.size (.slice bo k d) (kd P (i + 1))) := by show OwnC _ _ _ _; unfold OwnC; rw [HZ.out, HMl.out]; exact O3
            clear O3
            go_wp2_with fail
            go_roundw
            case rel => exact ⟨HB3.out, i + 1, by omega, by go_num, HO3.out⟩
            case measure => simp [intOf]; omega
          | false =>
            have HZ : Hid _ := HNew.out hz
            go_wp2_with (at_builtin; refine wpList_append_own _ rfl _ _ 22 rfl w1.heap.size 35 i0 (.agg #[.int .u64 0, .int .u64 0, .int .u64 0, .int .u64 0]) 4 32 Tryd.underlying22 hi hz0 hz1 hz2 rfl (by decide) _ _ _ rfl (O3.alloc _) ⟨wr.heap.size, 0, none⟩ 1 1 (cls [P i]) rfl rfl ?c1 ?c2 ?c3 ?c4 ?c5 ?_)
            case c1 => first | exact new4 _ _ | exact fun _ _ h => h
            case c2 => exact plain4 _
            case c3 => unfold maxLen; omega
            case c4 => omega
            case c5 => first | omega | (simp; omega) | (show _ ≤ (wr.heap.push _).size; simp; omega)
            · intro v' w4 hown' hgrow _
              have HR : Hid (Below w1.heap.size w1 w4) := grow_below hsz HB3.out O3 hgrow
              have HO4 : Hid (OwnC w4 w1.heap.size v' (kd P (i + 1))) := by show OwnC _ _ _ _; unfold OwnC; rw [HZ.out, cls_append, List.length_append, HMl.out]; exact hown'
              clear hown' hgrow O3 HB3
              go_wp2_with fail
              go_roundw
              case rel => exact ⟨HR.out, i + 1, by omega, by go_num, HO4.out⟩
              case measure => simp [intOf]; omega
    · obtain rfl : i = n := by omega
      obtain ⟨bo, d, rfl, hI⟩ := ownC_lf HO.out (by omega)
      have HI : Hid (Lf wo bo (kd P i).length (at' (kd P i))) := hI
      have BR : Hid (Below w.heap.size w wo) := B1.out.trans (HB.out.mono B1.out.size)
      clear hI HO
      go_wp2_with fail
      go_ret
      exact ⟨⟨bo, d, rfl, HI.out⟩, BR.out⟩

end Cls
end Go.Proofs.YtcohcdebbkfdfaaDoor
