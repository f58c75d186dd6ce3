/- Contract of the document's Runs. -/
import Derived.Test.YtodjjajofiaehaaDoorClsRuns
namespace Go.Proofs.YtodjjajofiaehaaDoor
open Go.RowKit
namespace Cls

set_option maxHeartbeats 2000000 in
set_option maxRecDepth 4000 in
theorem refRuns_any (f : Nat → Bool) (w : World) :
    Calls Tryd.prog 27 #[.agg #[.int .u64 ((wd (f) 0 : Nat) : Int), .int .u64 ((wd (f) 1 : Nat) : Int), .int .u64 ((wd (f) 2 : Nat) : Int), .int .u64 ((wd (f) 3 : Nat) : Int)]] w fun e w' => ∃ v, e = .returned v ∧ OwnP w' w.heap.size v (rr f 256) ∧ Below w.heap.size w w' := by
  obtain ⟨w1, b1⟩ := box w f
  have E1 : Hid _ := b1.eq
  have B1 : Hid (Below w.heap.size w w1) := b1.bel
  have c1 : Hid _ := refBytes_any f w1
  obtain ⟨i0, hi, hz0, hz1, hz2⟩ := infoP
  have Hlen : Hid (∀ n, (rr f n).length ≤ n) := rr_len f
  clear b1
  go_enter Tryd.func27, Tryd.ntmps27
  go_wp2_with fail
  rw [← E1.out]
  clear E1
  refine Calls.mono (Hid.out c1) ?_; rintro e w2 ⟨g, cap, rfl, hg, hgl, hV, _, b2⟩
  have B2 : Hid (Below w.heap.size w w2) := B1.out.trans (b2.mono B1.out.size)
  have HV : Hid (Fv w2 g 256 (bo f)) := hV
  clear b2 hV c1 B1
  go_wp2_with fail
  go_loopw [3, 5] (fun v vb wr => ∃ b : Nat, b ≤ 256 ∧ vb = .int .i64 b ∧ OwnP wr w2.heap.size v (rr f b) ∧ Below w2.heap.size w2 wr) (fun _ vb _ => 256 - (intOf vb).toNat)
  case atStart => exact ⟨0, Nat.zero_le _, rfl, by rw [rr_zero]; exact ownP_nil _ _, Below.refl _ _⟩
  case round =>
    obtain ⟨b, hb, rfl, hown, hbel⟩ := hrel
    generalize u3 = vo at *
    have HO : Hid (OwnP wr w2.heap.size vo (rr f b)) := hown
    have HB : Hid (Below w2.heap.size w2 wr) := hbel
    by_cases hlt : b < 256
    · have hbI : (b : Int) < 256 := by omega
      have hck : wr.cell? ⟨g, b, none⟩ = some (.bool (f b)) := (Fv.below (show Fv w2 g 256 (bo f) from HV.out) hbel hgl) b hlt
      have hpre : Hid (∀ n, b = n + 1 → wr.cell? ⟨g, n, none⟩ = some (.bool (f n))) := fun n e => (Fv.below (show Fv w2 g 256 (bo f) from HV.out) hbel hgl) n (by omega)
      clear hown hbel
      cases hfb : f b with
      | false =>
        rw [hfb] at hck
        have HN : Hid _ := rr_not hfb
        clear hfb
        go_wp2_with fail
        go_roundw
        case rel => exact ⟨b + 1, by omega, by go_num, by rw [HN.out]; exact HO.out, HB.out⟩
        case measure => simp [intOf]; omega
      | true =>
        rw [hfb] at hck
        by_cases hnew : b = 0 ∨ f (b - 1) = false
        · have HN : Hid _ := rr_new hfb hnew
          have hlen : (rr f b).length ≤ 256 := by have := Hlen.out b; omega
          have O2 : wr.ownsRow w2.heap.size 22 2 vo (rr f b).length (prs (rr f b)) := HO.out
          have hsz : w2.heap.size ≤ wr.heap.size := HB.out.size
          clear hfb HO
          by_cases hb0 : b = 0
          · subst hb0
            clear hnew
            go_wp2_with (at_builtin; refine wpList_append_own _ rfl _ _ 38 rfl w2.heap.size 22 i0 (.agg #[.int .u8 0, .int .u8 0]) 2 2 Tryd.underlying38 hi hz0 hz1 hz2 rfl (by decide) _ _ _ rfl (O2.alloc _) ⟨wr.heap.size, 0, none⟩ 1 1 [.int .u8 0, .int .u8 0] rfl rfl ?c1 ?c2 ?c3 ?c4 ?c5 ?_)
            case c1 =>
              intro j' u hj'
              match j', hj' with
              | 0, hj' => simp at hj'; subst hj'; simp [Addr.add]
              | 1, hj' => simp at hj'; subst hj'; simp [Addr.add]
            case c2 =>
              intro u hu
              simp at hu
              subst hu
              rfl
            case c3 => unfold maxLen; omega
            case c4 => omega
            case c5 => simp; omega
            · intro v' w3 hown' hgrow _
              have HR : Hid (Below w2.heap.size w2 w3) := grow_below hsz HB.out O2 hgrow
              have HO3 : Hid (OwnP w3 w2.heap.size v' (rr f (0 + 1))) := by
                show OwnP _ _ _ _
                unfold OwnP
                rw [HN.out, prs_append, List.length_append]
                exact hown'
              clear hown' hgrow O2 HB
              go_wp2_with fail
              go_roundw
              case rel => exact ⟨1, by omega, by go_num, HO3.out, HR.out⟩
              case measure => simp [intOf]
          · obtain ⟨n, hbn⟩ : ∃ n, b = n + 1 := ⟨b - 1, by omega⟩
            have hfn : f n = false := by rcases hnew with h | h; exact absurd h hb0; rw [hbn] at h; simpa using h
            have hpk := hpre.out n hbn
            rw [hfn] at hpk
            have hpos : (0 : Int) < (b : Int) := by omega
            have hsub : (b : Int) - 1 = (n : Int) := by omega
            have hn6 : (n : Int) < 256 := by omega
            clear hnew hfn hb0 hbn
            go_wp2_with (at_builtin; refine wpList_append_own _ rfl _ _ 38 rfl w2.heap.size 22 i0 (.agg #[.int .u8 0, .int .u8 0]) 2 2 Tryd.underlying38 hi hz0 hz1 hz2 rfl (by decide) _ _ _ rfl (O2.alloc _) ⟨wr.heap.size, 0, none⟩ 1 1 [.int .u8 (b : Int), .int .u8 (b : Int)] rfl rfl ?c1 ?c2 ?c3 ?c4 ?c5 ?_)
            case c1 =>
              intro j' u hj'
              match j', hj' with
              | 0, hj' => simp at hj'; subst hj'; simp [Addr.add]
              | 1, hj' => simp at hj'; subst hj'; simp [Addr.add]
            case c2 =>
              intro u hu
              simp at hu
              subst hu
              rfl
            case c3 => unfold maxLen; omega
            case c4 => omega
            case c5 => simp; omega
            · intro v' w3 hown' hgrow _
              have HR : Hid (Below w2.heap.size w2 w3) := grow_below hsz HB.out O2 hgrow
              have HO3 : Hid (OwnP w3 w2.heap.size v' (rr f (b + 1))) := by
                show OwnP _ _ _ _
                unfold OwnP
                rw [HN.out, prs_append, List.length_append]
                exact hown'
              clear hown' hgrow O2 HB
              go_wp2_with fail
              go_roundw
              case rel => exact ⟨b + 1, by omega, by go_num, HO3.out, HR.out⟩
              case measure => simp [intOf]; omega
        · obtain ⟨n, hbn⟩ : ∃ n, b = n + 1 := ⟨b - 1, by omega⟩
          have hfn : f n = true := by
            cases e : f n with
            | true => rfl
            | false => exact absurd (Or.inr (by rw [hbn]; simpa using e)) hnew
          obtain ⟨L, a, eL, ha⟩ := rr_last hfn
          have HN : Hid (rr f (b + 1) = L ++ [(a, b)]) := by show _ = _; rw [hbn]; rw [hbn] at hfb; exact rr_more hfb hfn eL
          have hpk := hpre.out n hbn
          rw [hfn] at hpk
          have HO' : OwnP wr w2.heap.size vo (L ++ [(a, n)]) := by rw [← eL, ← hbn]; exact HO.out
          obtain ⟨g', cap', hv, hg', hgl', hcells, hfr⟩ := ownP_mem HO' (by simp)
          have hll : (L ++ [(a, n)]).length = L.length + 1 := by simp
          rw [hll] at hv
          subst hv
          have hc0 : wr.cell? ⟨g', 2 * L.length + 1, none⟩ = some (.int .u8 (n : Int)) := by have := (hcells L.length (by simp)).2; simpa using this
          have hf0 := hfr (2 * L.length + 1)
          have HS : Hid (OwnP (wr.setCell ⟨g', 2 * L.length + 1, none⟩ (.int .u8 (b : Int))) w2.heap.size (.slice (some ⟨g', 0, none⟩) (L.length + 1) cap') (L ++ [(a, b)])) := ownP_set HO' b
          have HB2 : Hid (Below w2.heap.size w2 (wr.setCell ⟨g', 2 * L.length + 1, none⟩ (.int .u8 (b : Int)))) := HB.out.trans (((Wrote.refl (fun b' _ => b' = g') wr).setCell rfl _).below (fun b' o e => by omega))
          have hlen : L.length ≤ 256 := by have := Hlen.out (n + 1); rw [eL, hll] at this; omega
          have hpos : (0 : Int) < (b : Int) := by omega
          have hsub : (b : Int) - 1 = (n : Int) := by omega
          have hn6 : (n : Int) < 256 := by omega
          clear hnew hfn hfb HO HB HO' hcells hfr eL hll hbn
          generalize L.length = m at *
          rw [Nat.mul_comm 2 m] at hc0 hf0 HS HB2
          go_wp2_with fail
          go_roundw
          case rel => exact ⟨b + 1, by omega, by go_num, by rw [HN.out]; exact HS.out, HB2.out⟩
          case measure => simp [intOf]; omega
    · obtain rfl : b = 256 := by omega
      obtain ⟨ao, c, rfl⟩ := ownP_slice HO.out
      have H6 : Hid (Below w.heap.size w wr) := B2.out.trans (HB.out.mono B2.out.size)
      have hsz : w.heap.size ≤ w2.heap.size := B2.out.size
      have H7 : Hid (OwnP wr w.heap.size (.slice ao (rr f 256).length c) (rr f 256)) := ownP_mono HO.out hsz
      clear HO HB hown hbel
      go_wp2_with fail
      go_ret
      exact ⟨_, rfl, H7.out, H6.out⟩
end Cls
end Go.Proofs.YtodjjajofiaehaaDoor
