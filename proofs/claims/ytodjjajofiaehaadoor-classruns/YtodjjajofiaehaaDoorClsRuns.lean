/- Contracts of class.Runs and of the document's Runs. -/
import Derived.Test.YtodjjajofiaehaaDoorClsRunM
import Derived.Test.YtodjjajofiaehaaDoorClsRef
import Derived.Test.YtodjjajofiaehaaDoorClsWith
namespace Go.Proofs.YtodjjajofiaehaaDoor
open Go.RowKit
namespace Cls

theorem infoP : ∃ i, Tryd.prog.info? 22 = some i ∧ i.zero = some (.agg #[.int .u8 0, .int .u8 0]) ∧ i.size = 2 ∧ i.bytes = 2 := by
  have h : (Tryd.prog.info? 22).map (fun i => (i.zero, i.size, i.bytes)) = some (some (.agg #[.int .u8 0, .int .u8 0]), 2, 2) := by kernel_rfl
  obtain ⟨i, hi, hz⟩ := Option.map_eq_some_iff.1 h
  simp only [Prod.mk.injEq] at hz
  exact ⟨i, hi, hz.1, hz.2.1, hz.2.2⟩

set_option maxHeartbeats 2000000 in
theorem runs_any (f : Nat → Bool) (w : World) :
    Calls Tryd.prog 26 #[.agg #[.int .u64 ((wd (f) 0 : Nat) : Int), .int .u64 ((wd (f) 1 : Nat) : Int), .int .u64 ((wd (f) 2 : Nat) : Int), .int .u64 ((wd (f) 3 : Nat) : Int)]] w fun e w' => ∃ v, e = .returned v ∧ OwnP w' w.heap.size v (rr f 256) ∧ Below w.heap.size w w' := by
  obtain ⟨w1, b1⟩ := box w f
  have E1 : Hid _ := b1.eq
  have B1 : Hid (Below w.heap.size w w1) := b1.bel
  have F1 : Hid (Fam w1 w.heap.size 0 4 (wi f)) := b1.fam
  have s1 : w.heap.size < w1.heap.size := by have := b1.size; omega
  obtain ⟨i0, hi, hz0, hz1, hz2⟩ := infoP
  have Hlen : Hid (∀ n, (rr f n).length ≤ n) := rr_len f
  clear b1
  go_enter Tryd.func26, Tryd.ntmps26
  go_wp2_with fail
  rw [← E1.out]
  clear E1
  go_step3
  go_wp2_with fail
  go_step3
  go_wp2_with fail
  go_loopw [3, 4] (fun v vp wr => ∃ p q : Nat, vp = .int .i64 p ∧ q ≤ 256 ∧ (p = q ∨ (p = 257 ∧ q = 256)) ∧ (p = 257 ∨ q = 0 ∨ f (q - 1) = false) ∧ OwnP wr w1.heap.size v (rr f q) ∧ Below w1.heap.size w1 wr) (fun _ vp _ => 258 - (intOf vp).toNat)
  case atStart => exact ⟨0, 0, rfl, by omega, Or.inl rfl, by omega, by rw [rr_zero]; exact ownP_nil _ _, Below.refl _ _⟩
  case round =>
    rename World => wo
    obtain ⟨p, q, rfl, hq, hpq, hprev, hown, hbel⟩ := hrel
    generalize u3 = vo at *
    have HO : Hid (OwnP wo w1.heap.size vo (rr f q)) := hown
    have HB : Hid (Below w1.heap.size w1 wo) := hbel
    clear hown hbel
    by_cases hlt : p < 256
    · obtain rfl : p = q := by omega
      have hprev' : p = 0 ∨ f (p - 1) = false := by rcases hprev with h | h | h; exact absurd h (by omega); exact Or.inl h; exact Or.inr h
      have HP : Hid _ := hprev'
      have hpI : (p : Int) < 256 := by omega
      obtain ⟨a0, a1, a2, a3⟩ := c4 (F1.out.below HB.out s1)
      have c1 : Hid _ := has_any f p hlt wo
      clear hprev hprev' hpq
      cases hfp : f p with
      | false =>
        rw [hfp] at c1
        have HN : Hid (rr f (p + 1) = rr f p) := rr_not hfp
        have HF : Hid (f (p + 1 - 1) = false) := by show _ = _; simpa using hfp
        clear hfp
        go_wp2_with fail
        refine Calls.mono (Hid.out c1) ?_; rintro e w2 ⟨rfl, b2⟩
        have HB2 : Hid (Below w1.heap.size w1 w2) := HB.out.trans (b2.mono HB.out.size)
        have HO2 : Hid (OwnP w2 w1.heap.size vo (rr f p)) := owns_below HO.out b2 (Nat.le_refl _)
        clear b2
        go_wp2_with fail
        go_roundw
        case rel => exact ⟨p + 1, p + 1, by go_num, by omega, Or.inl rfl, Or.inr (Or.inr HF.out), by rw [HN.out]; exact HO2.out, HB2.out⟩
        case measure => simp [intOf]; omega
      | true =>
        rw [hfp] at c1
        have HF : Hid (f p = true) := hfp
        clear hfp
        go_wp2_with fail
        refine Calls.mono (Hid.out c1) ?_; rintro e w2 ⟨rfl, b2⟩
        have HB2 : Hid (Below w1.heap.size w1 w2) := HB.out.trans (b2.mono HB.out.size)
        have HO2 : Hid (OwnP w2 w1.heap.size vo (rr f p)) := owns_below HO.out b2 (Nat.le_refl _)
        clear b2 a0 a1 a2 a3 c1 HB HO
        go_wp2_with fail
        go_loopw [3, 4, 5] (fun vv vp vl wr => ∃ q : Nat, vo = vv ∧ vp = .int .i64 (p : Int) ∧ vl = .int .i64 ((p + q : Nat) : Int) ∧ p + q < 256 ∧ (∀ x, p ≤ x → x ≤ p + q → f x = true) ∧ OwnP wr w1.heap.size vo (rr f p) ∧ Below w1.heap.size w1 wr) (fun _ _ vl _ => 256 - (intOf vl).toNat)
        case atStart => exact ⟨0, rfl, rfl, rfl, by omega, fun x h1 h2 => by rw [show x = p by omega]; exact HF.out, HO2.out, HB2.out⟩
        case round =>
          obtain ⟨q, rfl, rfl, rfl, hq2, hall, hown, hbel⟩ := hrel
          have HA : Hid _ := hall
          have HOi : Hid (OwnP wr w1.heap.size vo (rr f p)) := hown
          have HBi : Hid (Below w1.heap.size w1 wr) := hbel
          obtain ⟨a0, a1, a2, a3⟩ := c4 (F1.out.below hbel s1)
          have hrun : Hid _ := rr_run HP.out q hall
          obtain ⟨l, hl⟩ : ∃ l, p + q = l := ⟨_, rfl⟩
          rw [hl] at hrun hq2 ⊢
          have HL : Hid (p + q = l) := hl
          have hlI : (l : Int) < 256 := by omega
          clear hall hown hbel hl
          by_cases he : l = 255
          · subst he
            have HFin : Hid (rr f 256 = rr f p ++ [(p, 255)]) := hrun.out
            have hlen : (rr f p).length ≤ 256 := by have := Hlen.out p; omega
            have O2 : wr.ownsRow w1.heap.size 22 2 vo (rr f p).length (prs (rr f p)) := HOi.out
            have hsz : w1.heap.size ≤ wr.heap.size := HBi.out.size
            clear a0 a1 a2 a3 HOi
            go_wp2_with (at_builtin; refine wpList_append_own _ rfl _ _ 38 rfl w1.heap.size 22 i0 (.agg #[.int .u8 0, .int .u8 0]) 2 2 Tryd.underlying38 hi hz0 hz1 hz2 rfl (by decide) _ _ _ rfl (O2.alloc _) ⟨wr.heap.size, 0, none⟩ 1 1 [.int .u8 (p : Int), .int .u8 255] rfl rfl ?c1 ?c2 ?c3 ?c4 ?c5 ?_)
            case c1 =>
              intro j' u hj'
              match j', hj' with
              | 0, hj' => simp at hj'; subst hj'; simp [Addr.add]
              | 1, hj' => simp at hj'; subst hj'; simp [Addr.add]
            case c2 =>
              intro u hu
              simp at hu
              rcases hu with rfl | rfl <;> rfl
            case c3 => unfold maxLen; omega
            case c4 => omega
            case c5 => simp; omega
            · intro v' w3 hown' hgrow _
              have HR : Hid (Below w1.heap.size w1 w3) := grow_below hsz HBi.out O2 hgrow
              have HO3 : Hid (OwnP w3 w1.heap.size v' (rr f 256)) := by
                show OwnP _ _ _ _
                unfold OwnP
                rw [HFin.out, prs_append, List.length_append]
                exact hown'
              clear hown' hgrow O2 HBi
              go_wp2_with fail
              go_roundw
              case rel => exact ⟨257, 256, by go_num, by omega, Or.inr ⟨rfl, rfl⟩, Or.inl rfl, HO3.out, HR.out⟩
              case measure => simp [intOf]; omega
          · have hl5 : (l : Int) < 255 := by omega
            have hl1 : l + 1 < 256 := by omega
            have hl1I : (l : Int) + 1 = ((l + 1 : Nat) : Int) := by omega
            have hne : ¬ (l : Int) + 1 = 256 := by omega
            have hneb : ((l : Int) + 1 == 256) = false := by simp; omega
            have c2 : Hid (Calls Tryd.prog 22 #[.agg #[.int .u64 ((wd (f) 0 : Nat) : Int), .int .u64 ((wd (f) 1 : Nat) : Int), .int .u64 ((wd (f) 2 : Nat) : Int), .int .u64 ((wd (f) 3 : Nat) : Int)], .int .u8 ((l : Int) + 1)] wr fun e w' => e = .returned (.bool (f (l + 1))) ∧ Below wr.heap.size wr w') := by
              show Calls _ _ _ _ _
              rw [hl1I]
              exact has_any f (l + 1) hl1 wr
            clear hl1I
            cases hfl : f (l + 1) with
            | true =>
              rw [hfl] at c2
              have HT : Hid (f (l + 1) = true) := hfl
              clear hfl
              go_wp2_with fail
              refine Calls.mono (Hid.out c2) ?_; rintro e w3 ⟨rfl, b3⟩
              have HB3 : Hid (Below w1.heap.size w1 w3) := HBi.out.trans (b3.mono HBi.out.size)
              have HO3 : Hid (OwnP w3 w1.heap.size vo (rr f p)) := owns_below HOi.out b3 (Nat.le_refl _)
              clear b3
              go_wp2_with fail
              go_roundw
              case rel =>
                have e := HL.out
                refine ⟨q + 1, rfl, rfl, by rw [show p + (q + 1) = l + 1 by omega]; go_num, by omega, fun x h1 h2 => ?_, HO3.out, HB3.out⟩
                by_cases h3 : x ≤ p + q
                · exact HA.out x h1 h3
                · rw [show x = l + 1 by omega]; exact HT.out
              case measure => simp [intOf]; omega
            | false =>
              rw [hfl] at c2
              have HT : Hid (f (l + 2 - 1) = false) := by show _ = _; rw [show l + 2 - 1 = l + 1 by omega]; exact hfl
              have HFin : Hid (rr f (l + 2) = rr f p ++ [(p, l)]) := by show _ = _; rw [show l + 2 = (l + 1) + 1 by omega, rr_not hfl]; exact hrun.out
              have hlen : (rr f p).length ≤ 256 := by have := Hlen.out p; omega
              clear hfl
              go_wp2_with fail
              refine Calls.mono (Hid.out c2) ?_; rintro e w3 ⟨rfl, b3⟩
              have HB3 : Hid (Below w1.heap.size w1 w3) := HBi.out.trans (b3.mono HBi.out.size)
              have O2 : w3.ownsRow w1.heap.size 22 2 vo (rr f p).length (prs (rr f p)) := owns_below HOi.out b3 (Nat.le_refl _)
              have hsz : w1.heap.size ≤ w3.heap.size := HB3.out.size
              clear b3 a0 a1 a2 a3 HOi
              go_wp2_with (at_builtin; refine wpList_append_own _ rfl _ _ 38 rfl w1.heap.size 22 i0 (.agg #[.int .u8 0, .int .u8 0]) 2 2 Tryd.underlying38 hi hz0 hz1 hz2 rfl (by decide) _ _ _ rfl (O2.alloc _) ⟨w3.heap.size, 0, none⟩ 1 1 [.int .u8 (p : Int), .int .u8 (l : Int)] rfl rfl ?c1 ?c2 ?c3 ?c4 ?c5 ?_)
              case c1 =>
                intro j' u hj'
                match j', hj' with
                | 0, hj' => simp at hj'; subst hj'; simp [Addr.add]
                | 1, hj' => simp at hj'; subst hj'; simp [Addr.add]
              case c2 =>
                intro u hu
                simp at hu
                rcases hu with rfl | rfl <;> rfl
              case c3 => unfold maxLen; omega
              case c4 => omega
              case c5 => simp; omega
              · intro v' w4 hown' hgrow _
                have HR : Hid (Below w1.heap.size w1 w4) := grow_below hsz HB3.out O2 hgrow
                have HO3 : Hid (OwnP w4 w1.heap.size v' (rr f (l + 2))) := by
                  show OwnP _ _ _ _
                  unfold OwnP
                  rw [HFin.out, prs_append, List.length_append]
                  exact hown'
                clear hown' hgrow O2 HB3
                go_wp2_with fail
                go_roundw
                case rel =>
                  have e := HL.out
                  exact ⟨l + 2, l + 2, by go_num, by omega, Or.inl rfl, Or.inr (Or.inr HT.out), HO3.out, HR.out⟩
                case measure => have e := HL.out; simp [intOf]; omega
    · obtain rfl : q = 256 := by omega
      obtain ⟨ao, c, rfl⟩ := ownP_slice HO.out
      have hpI : ¬ (p : Int) < 256 := by omega
      have H6 : Hid (Below w.heap.size w wo) := B1.out.trans (HB.out.mono B1.out.size)
      have H7 : Hid (OwnP wo w.heap.size (.slice ao (rr f 256).length c) (rr f 256)) := ownP_mono HO.out (by omega)
      clear hprev hpq HO HB
      go_wp2_with fail
      try rw [Exit.noGoto_ret]
      go_ret
      exact ⟨_, rfl, H7.out, H6.out⟩
end Cls
end Go.Proofs.YtodjjajofiaehaaDoor
