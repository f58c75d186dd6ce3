/- Contracts of the document's own answers of layer 6: Make. -/
import Derived.Test.YtodjjajofiaehaaDoorClsRef
namespace Go.Proofs.YtodjjajofiaehaaDoor
open Go.RowKit
namespace Cls

/-- The words while word k is being made: its bits from j on. -/
def mkw (f : Nat → Bool) (k j : Nat) : Nat → Int := fun t => if t < k then wi f t else if t = k then ((wd f k / 2 ^ j : Nat) : Int) else 0
theorem mkw_start (f : Nat → Bool) : ∀ t, t < 4 → wi (fun _ => false) t = mkw f 0 64 t := fun t _ => by
  unfold mkw wi
  rw [wd_none, wd_gone]
  simp
theorem mkw_next (f : Nat → Bool) (k : Nat) : ∀ t, t < 4 → mkw f k 0 t = mkw f (k + 1) 64 t := fun t _ => by
  unfold mkw
  rw [wd_gone]
  by_cases h1 : t < k
  · rw [if_pos h1, if_pos (by omega)]
  · by_cases h2 : t = k
    · subst h2; rw [if_neg h1, if_pos rfl, if_pos (by omega)]; unfold wi; simp
    · rw [if_neg h1, if_neg h2, if_neg (by omega)]; simp
theorem mkw_end (f : Nat → Bool) : ∀ t, t < 4 → mkw f 4 64 t = wi f t := fun t ht => by unfold mkw; rw [if_pos ht]
theorem mkw_at (f : Nat → Bool) (k j : Nat) : mkw f k j k = ((wd f k / 2 ^ j : Nat) : Int) := by unfold mkw; simp
theorem mkw_upd (f : Nat → Bool) (k j i : Nat) : ∀ t, t < 4 → upd (mkw f k j) k ((wd f k / 2 ^ i : Nat) : Int) t = mkw f k i t := fun t _ => by
  by_cases h : t = k
  · subst h; rw [upd_at, mkw_at]
  · rw [upd_off h]; unfold mkw; rw [if_neg h, if_neg h]
theorem upd_upd (H : Nat → Int) (k : Nat) (x y : Int) : upd (upd H k x) k y = upd H k y := by
  funext t
  by_cases h : t = k
  · subst h; rw [upd_at, upd_at]
  · rw [upd_off h, upd_off h, upd_off h]

set_option maxHeartbeats 2000000 in
theorem refMake_any (f : Nat → Bool) (g cap : Nat) (w : World) (hg : Fv w g 256 (bo f)) :
    Calls Tryd.prog 29 #[.slice (some ⟨g, 0, none⟩) 256 cap] w fun e w' => e = .returned (.agg #[.int .u64 ((wd (f) 0 : Nat) : Int), .int .u64 ((wd (f) 1 : Nat) : Int), .int .u64 ((wd (f) 2 : Nat) : Int), .int .u64 ((wd (f) 3 : Nat) : Int)]) ∧ Below w.heap.size w w' := by
  have hgl : g < w.heap.size := hg.lt (by omega)
  obtain ⟨v, gc, e1, hgc, hC⟩ := two_boxes w
  have E1 : Hid _ := e1
  have HG : Hid _ := hgc
  have hgc' : w.heap.size < gc := by omega
  have HV : Hid (Fv v g 256 (bo f)) := hg.below hC.bel hgl
  have HF : Hid (Fam v gc 0 4 (mkw f 0 64)) := hC.cf.congr (mkw_start f)
  have HWC : Hid (Wrt v gc 0 4) := hC.cw
  have HR : Hid (Fam v w.heap.size 0 4 (wi (fun _ => false))) := hC.rf
  have HWR : Hid (Wrt v w.heap.size 0 4) := hC.rw
  have HB : Hid (Below w.heap.size w v) := hC.bel
  clear e1 hgc hC hg
  go_enter Tryd.func29, Tryd.ntmps29
  go_wp2_with fail
  rw [← E1.out, HG.out]
  clear E1 HG
  go_loopw [4] (fun vk wr => ∃ k : Nat, k ≤ 4 ∧ vk = .int .i64 k ∧ Fam wr gc 0 4 (mkw f k 64) ∧ Wrote (fun b' _ => b' = gc) v wr) (fun vk _ => 4 - (intOf vk).toNat)
  case atStart => exact ⟨0, Nat.zero_le _, rfl, HF.out, Wrote.refl _ _⟩
  case round =>
    rename World => wo
    obtain ⟨k, hk, rfl, hF, hW⟩ := hrel
    have HFo : Hid (Fam wo gc 0 4 (mkw f k 64)) := hF
    have HWo : Hid (Wrote (fun b' _ => b' = gc) v wo) := hW
    clear hF hW
    by_cases hk4 : k < 4
    · have hkI : (k : Int) < 4 := by omega
      go_wp2_with fail
      go_loopw [5] (fun vi wr => ∃ j : Nat, j ≤ 64 ∧ vi = .int .i64 ((j : Int) - 1) ∧ Fam wr gc 0 4 (mkw f k j) ∧ Wrote (fun b' _ => b' = gc) v wr) (fun vi _ => ((intOf vi) + 1).toNat)
      case atStart => exact ⟨64, Nat.le_refl _, rfl, HFo.out, HWo.out⟩
      case round =>
        obtain ⟨j, hj, rfl, hF, hW⟩ := hrel
        by_cases hj0 : j = 0
        · subst hj0
          have HFi : Hid (Fam wr gc 0 4 (mkw f (k + 1) 64)) := hF.congr (mkw_next f k)
          have HWi : Hid (Wrote (fun b' _ => b' = gc) v wr) := hW
          clear hF hW
          go_wp2_with fail
          go_roundw
          case rel => exact ⟨k + 1, by omega, by go_num, HFi.out, HWi.out⟩
          case measure => simp [intOf]; omega
        · obtain ⟨i, rfl⟩ : ∃ i, j = i + 1 := ⟨j - 1, by omega⟩
          have hck : wr.cell? ⟨gc, k, none⟩ = some (.int .u64 ((wd f k / 2 ^ (i + 1) : Nat) : Int)) := by
            have := hF.zero k hk4
            rwa [mkw_at] at this
          have hfk : wr.frozen? ⟨gc, k, none⟩ = false := (hW.wrt HWC.out).zero k hk4
          have hbit : wr.cell? ⟨g, 64 * k + i, none⟩ = some (.bool (f (64 * k + i))) := (Fv.wrote (show Fv v g 256 (bo f) from HV.out) hW (fun t _ e => by omega)) (64 * k + i) (by omega)
          have hh := half_at f k i (by omega)
          have hlt : wd f k / 2 ^ i < 18446744073709551616 := Nat.lt_of_le_of_lt (Nat.div_le_self _ _) (wd_lt f k)
          have hup := mkw_upd f k (i + 1) i
          have HFi : Hid (Fam wr gc 0 4 (mkw f k (i + 1))) := hF
          have HWi : Hid (Wrote (fun b' _ => b' = gc) v wr) := hW
          have hjI : ((i + 1 : Nat) : Int) - 1 = (i : Int) := by omega
          have hiI : (i : Int) < 64 := by omega
          obtain ⟨q, hq⟩ : ∃ q, 64 * k + i = q := ⟨_, rfl⟩
          rw [hq] at hbit hh
          have hii : 64 * (k : Int) + (i : Int) = (q : Int) := by omega
          have hq256 : (q : Int) < 256 := by omega
          clear hq
          clear hF hW
          have HUP : Hid _ := hup
          have HH : Hid _ := hh
          generalize wd f k / 2 ^ (i + 1) = X at *
          have hx2 : 2 * (X : Int) < 18446744073709551616 := by have := HH.out; omega
          rw [hjI]
          clear hjI
          cases hb : f q with
          | true =>
            rw [hb] at hbit
            have hx : ((wd f k / 2 ^ i : Nat) : Int) = 2 * (X : Int) + 1 := by have := HH.out; rw [hb] at this; simp at this; omega
            have hx3 : 2 * (X : Int) + 1 < 18446744073709551616 := by omega
            have HX : Hid _ := hx
            clear hup hh hlt hx hb
            go_wp2_with fail
            go_roundw
            case rel =>
              refine ⟨i, by omega, by go_num, ?_, ((HWi.out.setCell rfl _).setCell rfl _)⟩
              refine Fam.congr ((HFi.out.setCell_at hk4 (by omega) _).setCell_at hk4 (by omega) _) (fun t ht => ?_)
              rw [upd_upd]
              have := HUP.out t ht
              rw [HX.out] at this
              exact this
            case measure => simp [intOf]
          | false =>
            rw [hb] at hbit
            have hx : ((wd f k / 2 ^ i : Nat) : Int) = 2 * (X : Int) := by have := HH.out; rw [hb] at this; simp at this; omega
            have HX : Hid _ := hx
            clear hup hh hlt hx hb
            go_wp2_with fail
            go_roundw
            case rel =>
              refine ⟨i, by omega, by go_num, ?_, HWi.out.setCell rfl _⟩
              refine Fam.congr (HFi.out.setCell_at hk4 (by omega) _) (fun t ht => ?_)
              have := HUP.out t ht
              rw [HX.out] at this
              exact this
            case measure => simp [intOf]
    · obtain rfl : k = 4 := by omega
      have FZ : Hid (Fam wo w.heap.size 0 4 (wi (fun _ => false))) := Wrote.fam HWo.out HR.out (fun t _ e => by omega)
      obtain ⟨q0, q1, q2, q3⟩ := c4 (HFo.out.congr (mkw_end f))
      obtain ⟨z0, z1, z2, z3⟩ := c4 FZ.out
      obtain ⟨f0, f1, f2, f3⟩ := f4 (Wrote.wrt HWo.out HWR.out)
      have hbel : Hid (Below w.heap.size w wo) := HB.out.trans (HWo.out.below (fun b o e => by omega))
      go_wp2_with fail
      refine bodyPost_ret (results_set4 rfl _ wo w.heap.size f rfl FZ.out) rfl ?_
      exact ⟨rfl, set4_below hbel.out (Nat.le_refl _) _⟩
end Cls
end Go.Proofs.YtodjjajofiaehaaDoor
