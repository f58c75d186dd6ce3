/- Contract of ntt.transform: the row becomes its transform, by halves; the spare row is written over; nothing else turns. Contracts of ntt.powersOf and ntt.transformed. Contract of ntt.transformed: a new row with the transform; nothing that was there turns. Contracts of ntt.Forward, ntt.Inverse and ntt.Cyclic. Contracts of the document's own answers of layer 2 (beagleref02): sums, Forward, Inverse. Contracts of the document's own answers of layer 2, on: Forward, Inverse; and of Same. Contracts of ntt.Cyclic and of the document's own Cyclic. -/
import Derived.Test.YtlogdjhnhnfbkaaDoorResWalks
import Derived.Test.YtlogdjhnhnfbkaaDoorMem
import Derived.Test.YtlogdjhnhnfbkaaDoorMathA
import Derived.CellFam
import Derived.Deep.QuietTactic
import Derived.BigQuiet
import Derived.RegionTactic
import Derived.BigRegion
import Derived.Test.YtlogdjhnhnfbkaaDoorNttLog
import Derived.OwnWalk
import Derived.Deep.RegionWith
import Derived.Deep.DrawnRows
import Derived.Test.YtlogdjhnhnfbkaaDoorSameC

namespace Go.Proofs.YtlogdjhnhnfbkaaDoor
open Go.RowKit Res

/-- Two ranges. -/
def Two (rb ro sb so n : Nat) (b o : Nat) : Prop := (b = rb ∧ ro ≤ o ∧ o < ro + n) ∨ (b = sb ∧ so ≤ o ∧ o < so + n)

/-- One round of the parting. -/
theorem split_rel {w wr : World} {sb so n h i : Nat} {G Hi : Nat → Int} (hn : 2 * h ≤ n) (hi : i < h) (hs : Fam wr sb so n Hi) (hv : ∀ t, t < i → Hi t = G (2 * t) ∧ Hi (h + t) = G (2 * t + 1)) (hw : Wrote (fun b o => b = sb ∧ so ≤ o ∧ o < so + n) w wr) :
    ∃ (i' : Nat) (Hi' : Nat → Int), i' ≤ h ∧ Value.int .i64 ((i : Int) + 1) = .int .i64 (i' : Int) ∧
      Fam ((wr.setCell ⟨sb, so + i, none⟩ (.int .u64 (G (2 * i)))).setCell ⟨sb, so + h + i, none⟩ (.int .u64 (G (2 * i + 1)))).drew sb so n Hi' ∧
      (∀ t, t < i' → Hi' t = G (2 * t) ∧ Hi' (h + t) = G (2 * t + 1)) ∧ Wrote (fun b o => b = sb ∧ so ≤ o ∧ o < so + n) w ((wr.setCell ⟨sb, so + i, none⟩ (.int .u64 (G (2 * i)))).setCell ⟨sb, so + h + i, none⟩ (.int .u64 (G (2 * i + 1)))).drew := by
  refine ⟨i + 1, upd (upd Hi i (G (2 * i))) (h + i) (G (2 * i + 1)), by omega, by go_num, ((hs.setCell (by omega) _).setCell_at (by omega) (by omega) _).drew, ?_, ((hw.setCell ⟨rfl, by omega, by omega⟩ _).setCell ⟨rfl, by omega, by omega⟩ _).drew⟩
  intro t ht
  by_cases e : t = i
  · subst e
    rw [upd_off (by omega), upd_at, upd_at]; exact ⟨rfl, rfl⟩
  · rw [upd_off (by omega), upd_off e, upd_off (by omega), upd_off (by omega)]; exact hv t (by omega)
/-- One round of the joining. -/
theorem merge_rel {w wr : World} {rb ro n h i : Nat} {L M Ri : Nat → Int} (hn : 2 * h ≤ n) (hi : i < h) (hs : Fam wr rb ro n Ri) (hv : ∀ t, t < i → Ri t = L t ∧ Ri (h + t) = M t) (hw : Wrote (fun b o => b = rb ∧ ro ≤ o ∧ o < ro + n) w wr) (x y : Int) (hx : x = L i) (hy : y = M i) (q : Nat) :
    ∃ (i' : Nat) (Ri' : Nat → Int), i' ≤ h ∧ Value.int .i64 ((i : Int) + 1) = .int .i64 (i' : Int) ∧
      Fam (((wr.setCell ⟨rb, ro + i, none⟩ (.int .u64 x)).setCell ⟨rb, ro + h + i, none⟩ (.int .u64 y)).drewN q) rb ro n Ri' ∧
      (∀ t, t < i' → Ri' t = L t ∧ Ri' (h + t) = M t) ∧ Wrote (fun b o => b = rb ∧ ro ≤ o ∧ o < ro + n) w (((wr.setCell ⟨rb, ro + i, none⟩ (.int .u64 x)).setCell ⟨rb, ro + h + i, none⟩ (.int .u64 y)).drewN q) := by
  refine ⟨i + 1, upd (upd Ri i x) (h + i) y, by omega, by go_num, ((hs.setCell (by omega) _).setCell_at (by omega) (by omega) _).drewN _, ?_, ((hw.setCell ⟨rfl, by omega, by omega⟩ _).setCell ⟨rfl, by omega, by omega⟩ _).drewN _⟩
  intro t ht
  by_cases e : t = i
  · subst e
    rw [upd_off (by omega), upd_at, upd_at]; exact ⟨hx, hy⟩
  · rw [upd_off (by omega), upd_off e, upd_off (by omega), upd_off (by omega)]; exact hv t (by omega)

set_option maxHeartbeats 1000000 in
theorem transform_step (k : Int) (hp : pr k ≠ 0) (h n st P : Nat) (hn1 : n ≤ 2 * h) (hn2 : 2 * h ≤ n) (hh0 : 1 ≤ h) (hh1 : h ≤ 2048) (r : Int) (hP : P = h * st) (hst : 1 ≤ st) (hPb : P ≤ 4096) (hx : md k (r ^ P) = pr k - 1)
    (rb ro cr sb so cs pb po cp : Nat) (hrs : rb ≠ sb) (hrp : rb ≠ pb) (hsp : sb ≠ pb) (hr0 : rb ≠ 1) (hs0 : sb ≠ 1) (hcr : n ≤ cr) (hcs : n ≤ cs)
    (G : Nat → Int) (w : World) (hT : Tab w) (hG0 : ∀ t, 0 ≤ G t) (hG1 : ∀ t, G t < pr k)
    (hrow : Fam w rb ro n G) (hrw : Wrt w rb ro n) (H : Nat → Int) (hsp' : Fam w sb so n H) (hsw : Wrt w sb so n) (hpw : Fam w pb po P (fun i => md k (r ^ i)))
    (ih : ∀ (rb ro cr sb so cs : Nat), rb ≠ sb → rb ≠ pb → sb ≠ pb → rb ≠ 1 → sb ≠ 1 → h ≤ cr → h ≤ cs → ∀ (G : Nat → Int) (w : World), Tab w → (∀ t, 0 ≤ G t) → (∀ t, G t < pr k) →
      Fam w rb ro h G → Wrt w rb ro h → ∀ (H : Nat → Int), Fam w sb so h H → Wrt w sb so h → Fam w pb po P (fun i => md k (r ^ i)) →
      Calls Tryd.prog 102 #[.int .i64 k, .slice (some ⟨rb, ro, none⟩) h cr, .slice (some ⟨sb, so, none⟩) h cs, .slice (some ⟨pb, po, none⟩) P cp] w fun e w' =>
        e = .returned (.tuple #[]) ∧ Fam w' rb ro h (dft k (r ^ (2 * st)) h G) ∧ (∃ H', Fam w' sb so h H') ∧ Wrote (Two rb ro sb so h) w w') :
    Calls Tryd.prog 102 #[.int .i64 k, .slice (some ⟨rb, ro, none⟩) n cr, .slice (some ⟨sb, so, none⟩) n cs, .slice (some ⟨pb, po, none⟩) P cp] w fun e w' =>
      e = .returned (.tuple #[]) ∧ Fam w' rb ro n (dft k (r ^ st) n G) ∧ (∃ H', Fam w' sb so n H') ∧ Wrote (Two rb ro sb so n) w w' := by
  have IH : Hid _ := ih
  clear ih
  have eh : (n : Int) / 2 = (h : Int) := by omega
  have enh : n - h = h := by omega
  have hci : (n : Int) ≤ (cs : Int) := by omega
  have hci2 : (n : Int) ≤ (cr : Int) := by omega
  have HP : Hid (P = h * st) := hP
  clear hP
  have HX : Hid _ := hx
  clear hx
  go_enter Tryd.func102, Tryd.ntmps102
  go_wp2_with fail
  go_quiet (fail)
  go_wp2_with fail
  go_loopw [35] (fun vi wr => ∃ (i : Nat) (Hi : Nat → Int), i ≤ h ∧ vi = .int .i64 i ∧ Fam wr sb so n Hi ∧ (∀ t, t < i → Hi t = G (2 * t) ∧ Hi (h + t) = G (2 * t + 1)) ∧ Wrote (fun b o => b = sb ∧ so ≤ o ∧ o < so + n) w wr) (fun vi _ => h - (intOf vi).toNat)
  case atStart => exact ⟨0, H, Nat.zero_le _, rfl, hsp', fun t ht => by omega, (Wrote.refl _ _).drewN _⟩
  case round =>
    obtain ⟨i, Hi, hi, rfl, hfs, hval, hwr⟩ := hrel
    have hfr : Fam wr rb ro n G := hwr.fam hrow (fun t _ e => hrs e.1)
    have hws : Wrt wr sb so n := hwr.wrt hsw
    have hTr : Tab wr := hT.wrote hwr (fun o e => hs0 e.1.symm)
    have Hv : Hid _ := hval
    have Hw : Hid _ := hwr
    have Hs : Hid (Fam wr sb so n Hi) := hfs
    clear hval hwr
    by_cases hlt : i < h
    · unfold Fam at hfr hfs
      unfold Wrt at hws
      go_wp2_with fail
      go_region
      all_goals go_wp2_with fail
      go_roundw
      case rel => exact split_rel hn2 hlt Hs.out Hv.out Hw.out
      case measure => simp [intOf]; omega
    · have hih : h = i := by omega
      have hv := Hv.out
      have hw1 := Hw.out
      have hs1 := Hs.out
      clear Hv Hw Hs hfs hsp' hrow hT hlt hi
      subst hih
      have hpw1 : Fam wr pb po P (fun i => md k (r ^ i)) := hw1.fam hpw (fun t _ e => hsp e.1.symm)
      have hrw1 : Wrt wr rb ro n := hw1.wrt hrw
      have hfe : Fam wr sb so h (fun t => G (2 * t)) := (hs1.head h (by omega)).congr (fun t ht => (hv t ht).1)
      have hfo : Fam wr sb (so + h) h (fun t => G (2 * t + 1)) := (hs1.part h h (by omega)).congr (fun t ht => (hv t ht).2)
      have HW1 : Hid (Wrote (Two rb ro sb so n) w wr) := hw1.mono (fun b o e => Or.inr e)
      clear hv hs1 hpw hrw hsw hw1
      go_wp2_with fail
      go_quiet (fail)
      go_wp2_with fail
      refine Calls.mono (IH.out sb so h rb ro h (Ne.symm hrs) hsp hrp hs0 hr0 (Nat.le_refl _) (Nat.le_refl _) (fun t => G (2 * t)) (wr.drewN nq) (hTr.drewN' nq) (fun t => hG0 _) (fun t => hG1 _) hfe (hws.head h (by omega)) G (hfr.head h (by omega)) (hrw1.head h (by omega)) hpw1) ?_
      rintro e w1 ⟨rfl, e1, ⟨H1, s1⟩, x1⟩
      have hT1 : Tab w1 := (hTr.drewN' nq).wrote x1 (fun o e => by rcases e with ⟨e, _⟩ | ⟨e, _⟩; (exact hs0 e.symm); exact hr0 e.symm)
      have o1 : Fam w1 sb (so + h) h (fun t => G (2 * t + 1)) := x1.fam (hfo.drewN nq) (fun t ht e => by rcases e with ⟨_, e1, e2⟩ | ⟨e, _⟩; (omega); exact hrs e.symm)
      have p1 : Fam w1 pb po P (fun i => md k (r ^ i)) := x1.fam (hpw1.drewN nq) (fun t ht e => by rcases e with ⟨e, _⟩ | ⟨e, _⟩; (exact hsp e.symm); exact hrp e.symm)
      have r1 : Fam w1 rb (ro + h) h (fun t => G (h + t)) := x1.fam ((Fam.part hfr h h (by omega)).drewN nq) (fun t ht e => by rcases e with ⟨e, _⟩ | ⟨_, e1, e2⟩; (exact hrs e); omega)
      have y1 : Wrt w1 sb so n := x1.wrt (Wrt.drewN hws nq)
      have z1 : Wrt w1 rb ro n := x1.wrt (Wrt.drewN hrw1 nq)
      have HW2 : Hid (Wrote (Two rb ro sb so n) w w1) := (HW1.out.drewN nq).trans (x1.mono (fun b o e => by rcases e with ⟨e, e1, e2⟩ | ⟨e, e1, e2⟩; (exact Or.inr ⟨e, by omega, by omega⟩); exact Or.inl ⟨e, by omega, by omega⟩))
      clear hTr hpw1 hrw1 hfe hfo HW1 x1 hws hfr
      go_wp2_with fail
      refine Calls.mono (IH.out sb (so + h) h rb (ro + h) h (Ne.symm hrs) hsp hrp hs0 hr0 (Nat.le_refl _) (Nat.le_refl _) (fun t => G (2 * t + 1)) w1 hT1 (fun t => hG0 _) (fun t => hG1 _) o1 (y1.part h h (by omega)) (fun t => G (h + t)) r1 (z1.part h h (by omega)) p1) ?_
      rintro e w2 ⟨rfl, o2, ⟨H2, s2⟩, x2⟩
      have hT2 : Tab w2 := hT1.wrote x2 (fun o e => by rcases e with ⟨e, _⟩ | ⟨e, _⟩; (exact hs0 e.symm); exact hr0 e.symm)
      have e2 : Fam w2 sb so h (dft k (r ^ (2 * st)) h fun t => G (2 * t)) := x2.fam e1 (fun t ht e => by rcases e with ⟨_, e1, e2⟩ | ⟨e, _⟩; (omega); exact hrs e.symm)
      have p2 : Fam w2 pb po P (fun i => md k (r ^ i)) := x2.fam p1 (fun t ht e => by rcases e with ⟨e, _⟩ | ⟨e, _⟩; (exact hsp e.symm); exact hrp e.symm)
      have s12 : Fam w2 rb ro h H1 := x2.fam s1 (fun t ht e => by rcases e with ⟨e, _⟩ | ⟨_, e1, e2⟩; (exact hrs e); omega)
      have r2 := (s12.join s2).head n (by omega)
      have z2 : Wrt w2 rb ro n := x2.wrt z1
      have f2 := (e2.join o2).head n (by omega)
      have HW3 : Hid (Wrote (Two rb ro sb so n) w w2) := HW2.out.trans (x2.mono (fun b o e => by rcases e with ⟨e, e1, e2⟩ | ⟨e, e1, e2⟩; (exact Or.inr ⟨e, by omega, by omega⟩); exact Or.inl ⟨e, by omega, by omega⟩))
      clear hT1 o1 p1 r1 y1 z1 HW2 x2 s1 s2 s12 e1 nq wr IH
      generalize (fun t => if t < h then H1 t else H2 (t - h)) = R0 at r2
      have hE : ∀ t, 0 ≤ dft k (r ^ (2 * st)) h (fun t => G (2 * t)) t ∧ dft k (r ^ (2 * st)) h (fun t => G (2 * t)) t ≤ 998244352 := fun t => ⟨dft_nonneg _ _ _ _ _, dft_le _ _ _ _ _⟩
      have hO : ∀ t, 0 ≤ dft k (r ^ (2 * st)) h (fun t => G (2 * t + 1)) t ∧ dft k (r ^ (2 * st)) h (fun t => G (2 * t + 1)) t ≤ 998244352 := fun t => ⟨dft_nonneg _ _ _ _ _, dft_le _ _ _ _ _⟩
      have hpw0 : ∀ t, 0 ≤ md k (r ^ t) ∧ md k (r ^ t) ≤ 998244352 := fun t => ⟨md_nonneg _ _, md_le _ _⟩
      have hL : Hid (∀ t, t < h → dft k (r ^ st) n G t = md k (dft k (r ^ (2 * st)) h (fun t => G (2 * t)) t + md k (dft k (r ^ (2 * st)) h (fun t => G (2 * t + 1)) t * md k (r ^ (t * st))))) := fun t _ => by
        have := bfly_low k (r ^ st) h G t
        rw [show 2 * h = n by omega, show r ^ st * r ^ st = r ^ (2 * st) by rw [← Int.pow_add, Nat.two_mul], ← Int.pow_mul, Nat.mul_comm st t] at this
        exact this
      have hM : Hid (∀ t, t < h → dft k (r ^ st) n G (h + t) = md k (dft k (r ^ (2 * st)) h (fun t => G (2 * t)) t + pr k - md k (dft k (r ^ (2 * st)) h (fun t => G (2 * t + 1)) t * md k (r ^ (t * st))))) := fun t _ => by
        have := bfly_high k (r ^ st) hp h (by rw [← Int.pow_mul, Nat.mul_comm, ← HP.out]; exact HX.out) G t
        rw [show 2 * h = n by omega, show r ^ st * r ^ st = r ^ (2 * st) by rw [← Int.pow_add, Nat.two_mul], ← Int.pow_mul, Nat.mul_comm st t] at this
        exact this
      generalize (dft k (r ^ (2 * st)) h fun t => G (2 * t)) = E at *
      generalize (dft k (r ^ (2 * st)) h fun t => G (2 * t + 1)) = O at *
      generalize hPW : (fun i => md k (r ^ i)) = PW at p2
      have hpwe : ∀ t, md k (r ^ t) = PW t := fun t => by rw [← hPW]
      have hPb : ∀ t, 0 ≤ PW t ∧ PW t ≤ 998244352 := fun t => by rw [← hpwe]; exact hpw0 t
      have HPW : Hid (∀ t, md k (r ^ t) = PW t) := hpwe
      clear hPW hpwe hpw0
      have F2 : Hid _ := f2
      clear f2
      have est : (P : Int) / (h : Int) = (st : Int) := by
        rw [HP.out, Int.natCast_mul]; exact Int.mul_ediv_cancel_left _ (by omega)
      have hstb : st ≤ 4096 := by have := HP.out; have := Nat.le_mul_of_pos_left st (show 0 < h by omega); omega
      have hhne : ((h : Int) == 0) = false := beq_eq_false_iff_ne.2 (by omega)
      have hhi : (1 : Int) ≤ (h : Int) := by omega
      have hpr0 : 167772161 ≤ pr k := pr_pos hp
      have hpr1 : pr k ≤ 998244353 := (pr_bd k).2
      clear hG0 hG1 hp
      go_wp2_with fail
      go_quiet ((go_at_call 100; exact Calls.quiet_of_same (prime_any _ _ hT2)))
      go_wp2_with fail
      go_loopw [82] (fun vi wr => ∃ (i : Nat) (Ri : Nat → Int), i ≤ h ∧ vi = .int .i64 i ∧ Fam wr rb ro n Ri ∧ (∀ t, t < i → Ri t = dft k (r ^ st) n G t ∧ Ri (h + t) = dft k (r ^ st) n G (h + t)) ∧ Wrote (fun b o => b = rb ∧ ro ≤ o ∧ o < ro + n) w2 wr) (fun vi _ => h - (intOf vi).toNat)
      case atStart => exact ⟨0, R0, Nat.zero_le _, rfl, r2, fun t ht => by omega, (Wrote.refl _ _).drewN _⟩
      case round =>
        obtain ⟨i, Ri, hi, rfl, hfr, hval, hwr⟩ := hrel
        have hT3 : Tab wr := hT2.wrote hwr (fun o e => hr0 e.1.symm)
        have e3 : Fam wr sb so h E := hwr.fam e2 (fun t _ e => hrs e.1.symm)
        have o3 : Fam wr sb (so + h) h O := hwr.fam o2 (fun t _ e => hrs e.1.symm)
        have p3 : Fam wr pb po P PW := hwr.fam p2 (fun t _ e => hrp e.1.symm)
        have z3 : Wrt wr rb ro n := hwr.wrt z2
        have Hv : Hid _ := hval
        have Hw : Hid _ := hwr
        have Hs : Hid (Fam wr rb ro n Ri) := hfr
        clear hval hwr hT2 e2 o2 p2 z2 r2
        by_cases hlt : i < h
        · obtain ⟨q, hq⟩ : ∃ q : Nat, q = i * st := ⟨_, rfl⟩
          have hqP : q < P := by rw [hq, HP.out]; exact Nat.mul_lt_mul_of_pos_right hlt hst
          have eq : (i : Int) * (st : Int) = (q : Int) := by rw [hq, Int.natCast_mul]
          have Hq : Hid (q = i * st) := hq
          clear hq
          have hEi := hE i
          have hOi := hO i
          have hPi := hPb q
          have hx0 : 0 ≤ O i * PW q := Int.mul_nonneg hOi.1 hPi.1
          have hx1 : O i * PW q ≤ 998244352 * 998244352 := Int.mul_le_mul hOi.2 hPi.2 hPi.1 (by omega)
          have ht0 := md_nonneg k (O i * PW q)
          have ht1 := md_le_pr k (O i * PW q)
          have hlow : Hid (md k (E i + md k (O i * PW q)) = dft k (r ^ st) n G i) := by
            have := hL.out i hlt
            rw [HPW.out, ← Hq.out] at this
            exact this.symm
          have hhigh : Hid (md k (E i + pr k - md k (O i * PW q)) = dft k (r ^ st) n G (h + i)) := by
            have := hM.out i hlt
            rw [HPW.out, ← Hq.out] at this
            exact this.symm
          clear hE hO hPb
          unfold Fam at e3 o3 p3 hfr
          unfold Wrt at z3
          go_wp2_with fail
          go_quiet ((go_at_call 95; exact Calls.quiet_of_same (of_any _ _ _ hT3 (by omega))))
          go_wp2_with fail
          refine Calls.mono (of_any k (E i + md k (O i * PW q)) (wr.drewN nq) (hT3.drewN' nq) (by omega)) ?_; rintro e w' ⟨rfl, hw'⟩; subst w'
          go_wp2_with fail
          refine Calls.mono (of_any k (E i + pr k - md k (O i * PW q)) _ ((Tab.setCell hT3 hr0 _).drewN' nq) (by omega)) ?_; rintro e w' ⟨rfl, hw'⟩; subst w'
          go_wp2_with fail
          go_roundw
          case rel => exact merge_rel (L := fun t => dft k (r ^ st) n G t) (M := fun t => dft k (r ^ st) n G (h + t)) hn2 hlt Hs.out Hv.out Hw.out _ _ hlow.out hhigh.out _
          case measure => simp [intOf]; omega
        · have hih : h = i := by omega
          subst hih
          have hfin : Hid (Fam wr rb ro n (dft k (r ^ st) n G)) := Hs.out.congr (fun t ht => by
            by_cases e : t < h
            · exact (Hv.out t e).1
            · have := (Hv.out (t - h) (by omega)).2
              rwa [show h + (t - h) = t by omega] at this)
          have hall : Hid (Wrote (Two rb ro sb so n) w wr) := HW3.out.trans (Hw.out.mono (fun b o e => Or.inl e))
          have hspare : Hid (∃ H', Fam wr sb so n H') := ⟨_, Hw.out.fam F2.out (fun t _ e => hrs e.1.symm)⟩
          clear hE hO hPb e3 o3 p3 z3 hT3
          go_wp2_with fail
          go_end0
          exact ⟨rfl, hfin.out, hspare.out, hall.out⟩

set_option maxHeartbeats 400000 in
theorem transform_one (k : Int) (n : Nat) (hn : n = 1) (r : Int) (P rb ro cr sb so cs pb po cp st : Nat) (G : Nat → Int) (w : World) (hG0 : ∀ t, 0 ≤ G t) (hG1 : ∀ t, G t < pr k) (hrow : Fam w rb ro n G) (H : Nat → Int) (hs : Fam w sb so n H) :
    Calls Tryd.prog 102 #[.int .i64 k, .slice (some ⟨rb, ro, none⟩) n cr, .slice (some ⟨sb, so, none⟩) n cs, .slice (some ⟨pb, po, none⟩) P cp] w fun e w' =>
      e = .returned (.tuple #[]) ∧ Fam w' rb ro n (dft k (r ^ st) n G) ∧ (∃ H', Fam w' sb so n H') ∧ Wrote (Two rb ro sb so n) w w' := by
  have F1 : Hid (Fam w rb ro n (dft k (r ^ st) n G)) := hrow.congr (fun t ht => by
    subst hn
    obtain rfl : t = 0 := by omega
    rw [dft_one, md_of_lt (hG0 0) (hG1 0)])
  have F2 : Hid (∃ H', Fam w sb so n H') := ⟨H, hs⟩
  have hb : ((n : Int) == 1) = true := beq_iff_eq.2 (by omega)
  clear hrow hs hn hG0 hG1
  go_enter Tryd.func102, Tryd.ntmps102
  go_wp2_with fail
  exact bodyPost_ret (results_none (by rfl) _ _ _) rfl ⟨rfl, F1.out, F2.out, Wrote.refl _ _⟩

theorem transform_any (k : Int) (hp : pr k ≠ 0) (r : Int) (P pb po cp : Nat) (hPb : P ≤ 4096) (m : Nat) : ∀ (n st : Nat), n = 2 ^ m → 1 ≤ st → m ≤ 12 → (m = 0 ∨ (P = 2 ^ (m - 1) * st ∧ md k (r ^ P) = pr k - 1)) →
    ∀ (rb ro cr sb so cs : Nat), rb ≠ sb → rb ≠ pb → sb ≠ pb → rb ≠ 1 → sb ≠ 1 → n ≤ cr → n ≤ cs → ∀ (G : Nat → Int) (w : World), Tab w → (∀ t, 0 ≤ G t) → (∀ t, G t < pr k) →
      Fam w rb ro n G → Wrt w rb ro n → ∀ (H : Nat → Int), Fam w sb so n H → Wrt w sb so n → Fam w pb po P (fun i => md k (r ^ i)) →
      Calls Tryd.prog 102 #[.int .i64 k, .slice (some ⟨rb, ro, none⟩) n cr, .slice (some ⟨sb, so, none⟩) n cs, .slice (some ⟨pb, po, none⟩) P cp] w fun e w' =>
        e = .returned (.tuple #[]) ∧ Fam w' rb ro n (dft k (r ^ st) n G) ∧ (∃ H', Fam w' sb so n H') ∧ Wrote (Two rb ro sb so n) w w' := by
  induction m with
  | zero =>
    intro n st hn _ _ _ rb ro cr sb so cs _ _ _ _ _ _ _ G w _ hG0 hG1 hrow _ H hs _ _
    exact transform_one k n (by simpa using hn) r P rb ro cr sb so cs pb po cp st G w hG0 hG1 hrow H hs
  | succ m ih =>
    intro n st hn hst hm hP rb ro cr sb so cs h1 h2 h3 h4 h5 h6 h7 G w hT hG0 hG1 hrow hrw H hs hsw hpw
    have hP' : P = 2 ^ m * st ∧ md k (r ^ P) = pr k - 1 := by rcases hP with h | h; (exact absurd h (by omega)); exact h
    have hpow : 2 ^ m ≤ 2 ^ 11 := Nat.pow_le_pow_right (by omega) (by omega)
    have hpos : 1 ≤ 2 ^ m := Nat.one_le_two_pow
    have hn' : n = 2 * 2 ^ m := by rw [hn, Nat.pow_succ, Nat.mul_comm]
    refine transform_step k hp (2 ^ m) n st P (by omega) (by omega) hpos (by omega) r hP'.1 hst hPb hP'.2 rb ro cr sb so cs pb po cp h1 h2 h3 h4 h5 h6 h7 G w hT hG0 hG1 hrow hrw H hs hsw hpw ?_
    intro rb ro cr sb so cs g1 g2 g3 g4 g5 g6 g7 G w gT gG0 gG1 grow grw H gs gsw gpw
    refine ih (2 ^ m) (2 * st) rfl (by omega) (by omega) ?_ rb ro cr sb so cs g1 g2 g3 g4 g5 g6 g7 G w gT gG0 gG1 grow grw H gs gsw gpw
    cases m with
    | zero => exact Or.inl rfl
    | succ m =>
      refine Or.inr ⟨?_, hP'.2⟩
      rw [hP'.1, show m + 1 - 1 = m by omega, Nat.pow_succ, Nat.mul_assoc]

end Go.Proofs.YtlogdjhnhnfbkaaDoor

namespace Go.Proofs.YtlogdjhnhnfbkaaDoor
open Go.RowKit Res

set_option maxHeartbeats 400000 in
theorem powersOf_any (k r : Int) (n : Nat) (hn : n ≤ 4096) (hr : 0 ≤ r) (w : World) (hT : Tab w) :
    Calls Tryd.prog 103 #[.int .i64 k, .int .u64 r, .int .i64 n] w fun e w' =>
      e = .returned (.slice (some ⟨w.heap.size, 0, none⟩) n n) ∧ Fam w' w.heap.size 0 n (fun i => md k (r ^ i)) ∧ Below w.heap.size w w' ∧ w.heap.size < w'.heap.size := by
  have hmk := run_make_row' (P := Tryd.prog) 82 49 (.int .u64 0) 8 Tryd.underlying82 infoU rfl .i64 .i64 n (by omega) (by omega)
  have hT1 := hT.alloc (.cells (madeCells #[.int .u64 0] n) 49)
  have hf1 := fam_made w n 49
  have hw1 := wrt_made w n 49
  have hB : Hid (Below w.heap.size w (w.alloc (.cells (madeCells #[.int .u64 0] n) 49))) := (Below.refl _ _).alloc (Nat.le_refl _) _
  have hS : Hid ((w.alloc (.cells (madeCells #[.int .u64 0] n) 49)).heap.size = w.heap.size + 1) := by show (w.heap.push _).size = _; simp
  have hlt := tab_lt hT
  generalize hw1e : w.alloc (.cells (madeCells #[.int .u64 0] n) 49) = w1 at *
  have H1 : Hid _ := hw1e
  clear hw1e
  have hone : Hid (md k 1 = md k (r ^ 0)) := by show md k 1 = md k (r ^ 0); rw [Int.pow_zero]
  have F0 : Hid (Fill w1 w1 w.heap.size n 0 (fun i => md k (r ^ i)) (fun _ => 0)) := Fill.start _ hf1 hw1
  clear hf1 hw1 hT
  go_enter Tryd.func103, Tryd.ntmps103
  go_wp2_with fail
  rw [H1.out]
  clear H1 hmk
  refine Calls.mono (of_any k 1 w1 hT1 (by omega)) ?_; rintro e w' ⟨rfl, hw'⟩; subst w'
  go_wp2_with fail
  go_loopw [8, 15] (fun v vi wr => ∃ i : Nat, i ≤ n ∧ vi = .int .i64 i ∧ v = .int .u64 (md k (r ^ i)) ∧ Fill w1 wr w.heap.size n i (fun i => md k (r ^ i)) (fun _ => 0)) (fun _ vi _ => n - (intOf vi).toNat)
  case atStart => exact ⟨0, Nat.zero_le _, rfl, by rw [hone.out], F0.out⟩
  case round =>
    obtain ⟨i, hi, rfl, rfl, hF⟩ := hrel
    have HF : Hid _ := hF
    have hc := hF.fam.zero
    have hf := hF.wrt.zero
    have hTr : Tab wr := hT1.wrote hF.wrote (fun o e => by omega)
    clear hF
    by_cases hlt2 : i < n
    · have hs := HF.out.step hlt2 (x := md k (r ^ i)) rfl
      have HS : Hid _ := hs
      have hTs : Tab (wr.setCell ⟨w.heap.size, i, none⟩ (.int .u64 (md k (r ^ i)))) := hTr.setCell (by omega) _
      have hm : Hid (md k (md k (r ^ i) * r) = md k (r ^ (i + 1))) := by show md k (md k (r ^ i) * r) = _; rw [md_mul_l, ← Int.pow_succ]
      have hx0 := md_nonneg k (r ^ i)
      clear hs HF
      generalize md k (r ^ i) = x at *
      go_wp2_with fail
      refine Calls.mono (mul_any k x r _ hTs hx0 hr) ?_; rintro e w' ⟨rfl, hw'⟩; subst w'
      go_wp2_with fail
      go_roundw
      case rel => exact ⟨i + 1, by omega, by go_num, by rw [hm.out], HS.out⟩
      case measure => simp [intOf]; omega
    · have hfin : Hid (Fam wr w.heap.size 0 n (fun i => md k (r ^ i))) := HF.out.fin (by omega)
      have hbel : Hid (Below w.heap.size w wr) := hB.out.trans (HF.out.wrote.below (fun b o e => by omega))
      have hsz : Hid (w.heap.size < wr.heap.size) := by show w.heap.size < wr.heap.size; rw [HF.out.wrote.size, hS.out]; omega
      clear hc hf
      go_wp2_with fail
      go_ret
      exact ⟨rfl, hfin.out, hbel.out, hsz.out⟩

end Go.Proofs.YtlogdjhnhnfbkaaDoor

namespace Go.Proofs.YtlogdjhnhnfbkaaDoor
open Go.RowKit Res
attribute [local go_sem ↓] Go.wp_at_zero Go.wp_at_succ

/-- The call of transform, as 'transformed' makes it. -/
theorem transform_call (k : Int) (hp : pr k ≠ 0) (m n h : Nat) (hn : n = 2 ^ m) (hh : h = n / 2) (hm : m ≤ 12) (r : Int) (hx : m = 0 ∨ md k (r ^ (2 ^ (m - 1))) = pr k - 1) (L : Nat → Int)
    (B sb pb : Nat) (h1 : B ≠ sb) (h2 : B ≠ pb) (h3 : sb ≠ pb) (h4 : B ≠ 1) (h5 : sb ≠ 1) (v : World) (hT : Tab v) (hf : Fam v B 0 n (fun t => md k (L t))) (hw : Wrt v B 0 n) (hs : Fam v sb 0 n (fun _ => 0)) (hsw : Wrt v sb 0 n) (hpw : Fam v pb 0 h (fun i => md k (r ^ i))) :
    Calls Tryd.prog 102 #[.int .i64 k, .slice (some ⟨B, 0, none⟩) n n, .slice (some ⟨sb, 0, none⟩) n n, .slice (some ⟨pb, 0, none⟩) h h] v fun e w' =>
      e = .returned (.tuple #[]) ∧ Fam w' B 0 n (dft k r n L) ∧ Wrt w' B 0 n ∧ Wrote (fun b _ => b = B ∨ b = sb) v w' := by
  have hle : n ≤ 4096 := by rw [hn]; exact Nat.pow_le_pow_right (by omega) hm
  have hP : m = 0 ∨ (h = 2 ^ (m - 1) * 1 ∧ md k (r ^ h) = pr k - 1) := by
    cases m with
    | zero => exact Or.inl rfl
    | succ m =>
      have e : h = 2 ^ m := by rw [hh, hn, Nat.pow_succ]; omega
      refine Or.inr ⟨by rw [e]; simp, ?_⟩
      rcases hx with hx | hx
      · omega
      · rw [e]; exact hx
  refine (transform_any k hp r h pb 0 h (by omega) m n 1 hn (by omega) hm hP B 0 n sb 0 n h1 h2 h3 h4 h5 (Nat.le_refl _) (Nat.le_refl _) (fun t => md k (L t)) v hT (fun t => md_nonneg _ _) (fun t => md_lt hp _) hf hw (fun _ => 0) hs hsw hpw).mono ?_
  rintro e w' ⟨he, hd, _, hwr⟩
  refine ⟨he, hd.congr (fun t _ => ?_), hwr.wrt hw, hwr.mono (fun b o e => ?_)⟩
  · exact dft_congr (Eqm.of (by rw [Int.pow_succ, Int.pow_zero, Int.one_mul])) (fun i _ => md_md _ _)
  · rcases e with e | e
    · exact Or.inl e.1
    · exact Or.inr e.1

/-- All is laid for the call of transform. -/
structure Ready (w : World) (k r : Int) (n h : Nat) (L : Nat → Int) (sb pb : Nat) (v : World) : Prop where
  h1 : w.heap.size ≠ sb
  h2 : w.heap.size ≠ pb
  h3 : sb ≠ pb
  h5 : w.heap.size ≤ sb
  hT : Tab v
  hf : Fam v w.heap.size 0 n (fun t => md k (L t))
  hw : Wrt v w.heap.size 0 n
  hs : Fam v sb 0 n (fun _ => 0)
  hsw : Wrt v sb 0 n
  hpw : Fam v pb 0 h (fun i => md k (r ^ i))
  hb : Below w.heap.size w v
  hz : w.heap.size < v.heap.size
theorem Ready.drew {w : World} {k r : Int} {n h : Nat} {L : Nat → Int} {sb pb : Nat} {v : World} (R : Ready w k r n h L sb pb v) : Ready w k r n h L sb pb v.drew := ⟨R.h1, R.h2, R.h3, R.h5, R.hT, R.hf, R.hw, R.hs, R.hsw, R.hpw, R.hb.drew, R.hz⟩
theorem ready_call (k : Int) (hp : pr k ≠ 0) (m n h : Nat) (hn : n = 2 ^ m) (hh : h = n / 2) (hm : m ≤ 12) (r : Int) (hx : m = 0 ∨ md k (r ^ (2 ^ (m - 1))) = pr k - 1) (L : Nat → Int) (w : World) (hT : Tab w) (sb pb : Nat) (v : World) (R : Ready w k r n h L sb pb v) :
    Calls Tryd.prog 102 #[.int .i64 k, .slice (some ⟨w.heap.size, 0, none⟩) n n, .slice (some ⟨sb, 0, none⟩) n n, .slice (some ⟨pb, 0, none⟩) h h] v fun e w' =>
      e = .returned (.tuple #[]) ∧ Fam w' w.heap.size 0 n (dft k r n L) ∧ Wrt w' w.heap.size 0 n ∧ Below w.heap.size w w' ∧ w.heap.size < w'.heap.size := by
  have h0 := tab_lt hT
  refine (transform_call k hp m n h hn hh hm r hx L w.heap.size sb pb R.h1 R.h2 R.h3 (by omega) (by have := R.h5; omega) v R.hT R.hf R.hw R.hs R.hsw R.hpw).mono ?_
  rintro e w' ⟨he, hf, hw, hwr⟩
  refine ⟨he, hf, hw, R.hb.trans (hwr.below (fun b o e => ?_)), by rw [hwr.size]; exact R.hz⟩
  rcases e with e | e
  · omega
  · have := R.h5; omega
/-- The spare row first, then the powers. -/
theorem readyA {w wr w3 : World} {k r : Int} {n h : Nat} {L : Nat → Int} (hTr : Tab wr) (hfin : Fam wr w.heap.size 0 n (fun i => md k (L i))) (hsz : w.heap.size < wr.heap.size) (hwrt : Wrt wr w.heap.size 0 n) (Hb : Below w.heap.size w wr) (t : TypeId)
    (hp3 : Fam w3 (wr.alloc (.cells (madeCells #[.int .u64 0] n) t)).heap.size 0 h (fun i => md k (r ^ i))) (hb3 : Below (wr.alloc (.cells (madeCells #[.int .u64 0] n) t)).heap.size (wr.alloc (.cells (madeCells #[.int .u64 0] n) t)) w3) :
    Ready w k r n h L wr.heap.size (wr.heap.size + 1) w3 := by
  have e : (wr.alloc (.cells (madeCells #[.int .u64 0] n) t)).heap.size = wr.heap.size + 1 := by show (wr.heap.push _).size = _; simp
  rw [e] at hp3 hb3
  have hle := hb3.size
  rw [e] at hle
  refine ⟨by omega, by omega, by omega, by omega, (hTr.alloc _).below hb3 (by have := tab_lt hTr; omega), (hfin.alloc _).below hb3 (by omega), (hwrt.alloc hsz _).below hb3 (by omega), (fam_made wr n t).below hb3 (by omega), (wrt_made wr n t).below hb3 (by omega), hp3, ?_, by omega⟩
  exact (Hb.alloc (by omega) _).trans (hb3.mono (by omega))
/-- The powers first, then the spare row. -/
theorem readyB {w wr w3 : World} {k r : Int} {n h : Nat} {L : Nat → Int} (hTr : Tab wr) (hfin : Fam wr w.heap.size 0 n (fun i => md k (L i))) (hsz : w.heap.size < wr.heap.size) (hwrt : Wrt wr w.heap.size 0 n) (Hb : Below w.heap.size w wr) (t : TypeId)
    (hp3 : Fam w3 wr.heap.size 0 h (fun i => md k (r ^ i))) (hb3 : Below wr.heap.size wr w3) (hs3 : wr.heap.size < w3.heap.size) :
    Ready w k r n h L w3.heap.size wr.heap.size (w3.alloc (.cells (madeCells #[.int .u64 0] n) t)) := by
  refine ⟨by omega, by omega, by omega, by omega, (hTr.below hb3 (tab_lt hTr)).alloc _, (hfin.below hb3 hsz).alloc _, (hwrt.below hb3 hsz).alloc (by omega) _, fam_made w3 n t, wrt_made w3 n t, hp3.alloc _, (Hb.trans (hb3.mono (by omega))).alloc (by omega) _, ?_⟩
  show _ < (w3.heap.push _).size
  simp; omega

set_option maxHeartbeats 1000000 in
theorem transformed_any (k : Int) (hp : pr k ≠ 0) (m n : Nat) (hn : n = 2 ^ m) (hm : m ≤ 12) (r : Int) (hr : 0 ≤ r) (hx : m = 0 ∨ md k (r ^ (2 ^ (m - 1))) = pr k - 1) (lb lo lc : Nat) (L : Nat → Int) (hL : ∀ t, 0 ≤ L t) (w : World) (hT : Tab w) (hl : Fam w lb lo n L) :
    Calls Tryd.prog 94 #[.int .i64 k, .slice (some ⟨lb, lo, none⟩) n lc, .int .u64 r] w fun e w' =>
      e = .returned (.slice (some ⟨w.heap.size, 0, none⟩) n n) ∧ Fam w' w.heap.size 0 n (dft k r n L) ∧ Wrt w' w.heap.size 0 n ∧ Below w.heap.size w w' ∧ w.heap.size < w'.heap.size := by
  have hle : n ≤ 4096 := by rw [hn]; exact Nat.pow_le_pow_right (by omega) hm
  have hpos : 1 ≤ n := by rw [hn]; exact Nat.one_le_two_pow
  have hlb : lb < w.heap.size := hl.lt (by omega)
  obtain ⟨h, hh⟩ : ∃ h, h = n / 2 := ⟨_, rfl⟩
  have eh : (n : Int) / 2 = (h : Int) := by omega
  have hle2 : h ≤ 4096 := by omega
  have ewh : IntKind.i64.wrap (h : Int) = (h : Int) := by rw [IntKind.wrap_i64]; omega
  have TC : Hid _ := ready_call k hp m n h hn hh hm r hx L w hT
  clear hx hn hm hp hh
  have hmk := run_make_row' (P := Tryd.prog) 82 49 (.int .u64 0) 8 Tryd.underlying82 infoU rfl .i64 .i64 n (by omega) (by omega)
  have hT1 := hT.alloc (.cells (madeCells #[.int .u64 0] n) 49)
  have hl1 := hl.alloc (.cells (madeCells #[.int .u64 0] n) 49)
  have hf1 := fam_made w n 49
  have hw1 := wrt_made w n 49
  have hB : Hid (Below w.heap.size w (w.alloc (.cells (madeCells #[.int .u64 0] n) 49))) := (Below.refl _ _).alloc (Nat.le_refl _) _
  have hS : Hid ((w.alloc (.cells (madeCells #[.int .u64 0] n) 49)).heap.size = w.heap.size + 1) := by show (w.heap.push _).size = _; simp
  have hlt := tab_lt hT
  generalize hw1e : w.alloc (.cells (madeCells #[.int .u64 0] n) 49) = w1 at *
  have H1 : Hid _ := hw1e
  clear hw1e
  have F0 : Hid (Fill w1 w1 w.heap.size n 0 (fun i => md k (L i)) (fun _ => 0)) := Fill.start _ hf1 hw1
  clear hf1 hw1 hT hl
  go_enter Tryd.func94, Tryd.ntmps94
  go_wp2_with fail
  rw [H1.out]
  clear H1
  go_loopw [15] (fun vi wr => ∃ i : Nat, i ≤ n ∧ vi = .int .i64 i ∧ Fill w1 wr w.heap.size n i (fun i => md k (L i)) (fun _ => 0)) (fun vi _ => n - (intOf vi).toNat)
  case atStart => exact ⟨0, Nat.zero_le _, rfl, F0.out⟩
  case round =>
    obtain ⟨i, hi, rfl, hF⟩ := hrel
    have HF : Hid _ := hF
    have hc := hF.fam.zero
    have hf := hF.wrt.zero
    have hTr : Tab wr := hT1.wrote hF.wrote (fun o e => by omega)
    have hlr : Fam wr lb lo n L := hF.wrote.fam hl1 (fun t _ e => by omega)
    clear hF
    by_cases hlt2 : i < n
    · have HS : Hid _ := HF.out.step hlt2 (x := md k (L i)) rfl
      have hLi := hL i
      clear HF hmk
      unfold Fam at hlr
      go_wp2_with fail
      refine Calls.mono (of_any k (L i) wr hTr hLi) ?_; rintro e w' ⟨rfl, hw'⟩; subst w'
      go_wp2_with fail
      go_roundw
      case rel => exact ⟨i + 1, by omega, by go_num, HS.out⟩
      case measure => simp [intOf]; omega
    · have hfin : Fam wr w.heap.size 0 n (fun i => md k (L i)) := HF.out.fin (by omega)
      have hbel : Below w.heap.size w wr := hB.out.trans (HF.out.wrote.below (fun b o e => by omega))
      have hsz : w.heap.size < wr.heap.size := by rw [HF.out.wrote.size, hS.out]; omega
      have hwrt : Wrt wr w.heap.size 0 n := HF.out.wrt
      clear hc hf HF hlr hB hS F0 hl1 hT1
      have RA : Hid _ := fun (w3 : World) => readyA (w3 := w3) (r := r) (h := h) hTr hfin hsz hwrt hbel 49
      have RB : Hid _ := fun (w3 : World) => readyB (w3 := w3) (r := r) (h := h) hTr hfin hsz hwrt hbel 49
      clear hbel hwrt hfin
      go_wp2_with fail
      go_region_with (first | (go_at_call 103; refine (powersOf_any k r h hle2 hr _ ?hT).mono ?_; (case hT => first | exact hTr | exact Tab.alloc hTr _); rintro e w3 ⟨rfl, hp3, hb3, hs3⟩) | (go_at_call 102; refine (TC.out _ _ _ ?hR).mono ?_; (case hR => first | exact RA.out w3 hp3 (below_undrew hb3) | exact RB.out w3 hp3 (below_undrew hb3) hs3); rintro e w4 ⟨rfl, hf4, hw4, hb4, hz4⟩))
      all_goals
        have F4 : Hid _ := hf4
        have W4 : Hid _ := hw4
        have B4 : Hid _ := hb4
        clear hf4 hw4 hb4
        go_wp2_with fail
        go_ret
        exact ⟨rfl, F4.out, W4.out, B4.out, hz4⟩

end Go.Proofs.YtlogdjhnhnfbkaaDoor

namespace Go.Proofs.YtlogdjhnhnfbkaaDoor
open Go.RowKit Res
attribute [local go_sem ↓] Go.wp_at_zero Go.wp_at_succ

/-- A number of numbers that has no Log. -/
def NoLog (n : Int) : Prop := ∀ m : Nat, m ≤ 12 → n ≠ 2 ^ m
theorem pow_cast {n m : Nat} (h : n = 2 ^ m) : (n : Int) = 2 ^ m := by rw [h, Int.natCast_pow]; rfl

set_option maxHeartbeats 400000 in
theorem forward_noprime (k : Int) (ao : Option Addr) (n c : Nat) (w : World) (hT : Tab w) (hp : pr k = 0) :
    Calls Tryd.prog 87 #[.int .i64 k, .slice ao n c] w fun e w' => e = .returned (.tuple #[.slice none 0 0, .int .i64 20]) ∧ w' = w := by
  have c1 : Hid _ := rootFor_noprime k n w hT hp
  clear hp
  go_enter Tryd.func87, Tryd.ntmps87
  go_wp2_with fail
  refine Calls.mono (Hid.out c1) ?_; rintro e w' ⟨rfl, hw'⟩; subst w'
  go_wp2_with fail
  go_ret2
  exact ⟨rfl, rfl⟩

set_option maxHeartbeats 400000 in
theorem forward_nolen (k : Int) (ao : Option Addr) (n c : Nat) (w : World) (hT : Tab w) (hp : pr k ≠ 0) (hn : NoLog n) :
    Calls Tryd.prog 87 #[.int .i64 k, .slice ao n c] w fun e w' => e = .returned (.tuple #[.slice none 0 0, .int .i64 21]) ∧ w' = w := by
  have c1 : Hid _ := rootFor_nolen k n w hT hp hn
  clear hp hn
  go_enter Tryd.func87, Tryd.ntmps87
  go_wp2_with fail
  refine Calls.mono (Hid.out c1) ?_; rintro e w' ⟨rfl, hw'⟩; subst w'
  go_wp2_with fail
  go_ret2
  exact ⟨rfl, rfl⟩

set_option maxHeartbeats 400000 in
theorem forward_yes (k : Int) (hp : pr k ≠ 0) (m n : Nat) (hn : n = 2 ^ m) (hm : m ≤ 12) (lb lo lc : Nat) (L : Nat → Int) (hL : ∀ t, 0 ≤ L t) (w : World) (hT : Tab w) (hl : Fam w lb lo n L) :
    Calls Tryd.prog 87 #[.int .i64 k, .slice (some ⟨lb, lo, none⟩) n lc] w fun e w' =>
      e = .returned (.tuple #[.slice (some ⟨w.heap.size, 0, none⟩) n n, .int .i64 0]) ∧ Fam w' w.heap.size 0 n (dft k (rt k m) n L) ∧ Wrt w' w.heap.size 0 n ∧ Below w.heap.size w w' ∧ w.heap.size < w'.heap.size := by
  have c1 : Hid _ := rootFor_yes k n m w hT hp hm (pow_cast hn)
  have c2 : Hid _ := transformed_any k hp m n hn hm (rt k m) (rt_nonneg _ _) (rt_half k hp m hm) lb lo lc L hL w hT hl
  clear hp hn hl hL
  generalize rt k m = x at *
  go_enter Tryd.func87, Tryd.ntmps87
  go_wp2_with fail
  refine Calls.mono (Hid.out c1) ?_; rintro e w' ⟨rfl, hw'⟩; subst w'
  go_wp2_with fail
  refine Calls.mono (Hid.out c2) ?_; rintro e w1 ⟨rfl, h1, h2, h3, h4⟩
  have H1 : Hid _ := h1
  have H2 : Hid _ := h2
  have H3 : Hid _ := h3
  clear h1 h2 h3
  go_wp2_with fail
  go_ret2
  exact ⟨rfl, H1.out, H2.out, H3.out, h4⟩

set_option maxHeartbeats 400000 in
theorem inverse_noprime (k : Int) (ao : Option Addr) (n c : Nat) (w : World) (hT : Tab w) (hp : pr k = 0) :
    Calls Tryd.prog 90 #[.int .i64 k, .slice ao n c] w fun e w' => e = .returned (.tuple #[.slice none 0 0, .int .i64 20]) ∧ w' = w := by
  have c1 : Hid _ := rootFor_noprime k n w hT hp
  clear hp
  go_enter Tryd.func90, Tryd.ntmps90
  go_wp2_with fail
  refine Calls.mono (Hid.out c1) ?_; rintro e w' ⟨rfl, hw'⟩; subst w'
  go_wp2_with fail
  go_ret2
  exact ⟨rfl, rfl⟩

set_option maxHeartbeats 400000 in
theorem inverse_nolen (k : Int) (ao : Option Addr) (n c : Nat) (w : World) (hT : Tab w) (hp : pr k ≠ 0) (hn : NoLog n) :
    Calls Tryd.prog 90 #[.int .i64 k, .slice ao n c] w fun e w' => e = .returned (.tuple #[.slice none 0 0, .int .i64 21]) ∧ w' = w := by
  have c1 : Hid _ := rootFor_nolen k n w hT hp hn
  clear hp hn
  go_enter Tryd.func90, Tryd.ntmps90
  go_wp2_with fail
  refine Calls.mono (Hid.out c1) ?_; rintro e w' ⟨rfl, hw'⟩; subst w'
  go_wp2_with fail
  go_ret2
  exact ⟨rfl, rfl⟩

/-! the way back -/
/-- The root's inverse, and the number's. -/
def ivr (k : Int) (m : Nat) : Int := md k (rt k m ^ (pr k - 2).toNat)
def ivn (k : Int) (m : Nat) : Int := md k (((2 : Int) ^ m) ^ (pr k - 2).toNat)
def idft (k : Int) (m n : Nat) (L : Nat → Int) (t : Nat) : Int := md k (dft k (ivr k m) n L t * ivn k m)
theorem ivr_mul (k : Int) (hp : pr k ≠ 0) (m : Nat) (hm : m ≤ 12) : Eqm k (rt k m * ivr k m) 1 := by
  unfold Eqm
  rw [md_one hp]
  exact inv_right k (rt k m) (rt_nonneg _ _) hp (rt_ne k hp m hm)
theorem ivn_mul (k : Int) (hp : pr k ≠ 0) (m : Nat) (hm : m ≤ 12) : Eqm k ((2 : Int) ^ m * ivn k m) 1 := by
  unfold Eqm
  rw [md_one hp]
  exact inv_right k (2 ^ m) (Int.pow_nonneg (by omega)) hp (len_ne k hp m hm)
theorem ivr_half (k : Int) (hp : pr k ≠ 0) (m : Nat) (hm : m ≤ 12) : m = 0 ∨ md k (ivr k m ^ (2 ^ (m - 1))) = pr k - 1 := by
  rcases rt_half k hp m hm with h | h
  · exact Or.inl h
  right
  have hx1 : Eqm k (rt k m ^ (2 ^ (m - 1))) (-1) := by
    refine Eqm.trans (b := pr k - 1) ?_ (Eqm.neg_one hp)
    unfold Eqm
    rw [← h, md_md]
  have h2 : Eqm k (ivr k m ^ (2 ^ (m - 1))) (pr k - 1) := by
    refine Eqm.trans ?_ (Eqm.neg_one hp).symm
    refine Eqm.trans (b := (rt k m * ivr k m) ^ (2 ^ (m - 1)) * (-1)) ?_ ?_
    · rw [Int.mul_pow, Int.mul_assoc, Int.mul_comm, Int.mul_assoc]
      refine Eqm.trans (Eqm.of ?_) (Eqm.rfl'.mul ((Eqm.rfl' (a := (-1 : Int))).mul hx1.symm))
      simp
    · refine Eqm.trans (((ivr_mul k hp m hm).pow _).mul Eqm.rfl') (Eqm.of ?_)
      rw [Int.one_pow]; rfl
  unfold Eqm at h2
  rw [h2]
  have := pr_pos hp
  exact md_of_lt (by omega) (by omega)

set_option maxHeartbeats 1000000 in
theorem inverse_yes (k : Int) (hp : pr k ≠ 0) (m n : Nat) (hn : n = 2 ^ m) (hm : m ≤ 12) (lb lo lc : Nat) (L : Nat → Int) (hL : ∀ t, 0 ≤ L t) (w : World) (hT : Tab w) (hl : Fam w lb lo n L) :
    Calls Tryd.prog 90 #[.int .i64 k, .slice (some ⟨lb, lo, none⟩) n lc] w fun e w' =>
      e = .returned (.tuple #[.slice (some ⟨w.heap.size, 0, none⟩) n n, .int .i64 0]) ∧ Fam w' w.heap.size 0 n (idft k m n L) ∧ Wrt w' w.heap.size 0 n ∧ Below w.heap.size w w' ∧ w.heap.size < w'.heap.size := by
  have hle : n ≤ 4096 := by rw [hn]; exact Nat.pow_le_pow_right (by omega) hm
  have hlt := tab_lt hT
  have c1 : Hid _ := rootFor_yes k n m w hT hp hm (pow_cast hn)
  have c2 : Hid _ := inv_yes k (rt k m) w hT (rt_nonneg _ _) (rt_ne k hp m hm)
  have c3 : Hid (Calls Tryd.prog 96 #[.int .i64 k, .int .u64 (n : Int)] w fun e w' => e = .returned (.tuple #[.int .u64 (ivn k m), .bool true]) ∧ w' = w) := by
    have := inv_yes k (n : Int) w hT (by omega) (by rw [pow_cast hn]; exact len_ne k hp m hm)
    rw [show md k ((n : Int) ^ (pr k - 2).toNat) = ivn k m by rw [pow_cast hn]; rfl] at this
    exact this
  have c4 : Hid _ := transformed_any k hp m n hn hm (ivr k m) (md_nonneg _ _) (ivr_half k hp m hm) lb lo lc L hL w hT hl
  have hD : Hid (idft k m n L = fun t => md k (dft k (ivr k m) n L t * ivn k m)) := rfl
  have hd0 : ∀ t, 0 ≤ dft k (ivr k m) n L t := fun t => dft_nonneg _ _ _ _ _
  have hi0 : 0 ≤ ivn k m := md_nonneg _ _
  rw [show md k (rt k m ^ (pr k - 2).toNat) = ivr k m from rfl] at c2
  rw [hD.out]
  clear hp hn hl hL hD
  generalize dft k (ivr k m) n L = D at *
  generalize ivr k m = y at *
  generalize ivn k m = c at *
  generalize rt k m = x at *
  go_enter Tryd.func90, Tryd.ntmps90
  go_wp2_with fail
  refine Calls.mono (Hid.out c1) ?_; rintro e w' ⟨rfl, hw'⟩; subst w'
  go_wp2_with fail
  refine Calls.mono (Hid.out c2) ?_; rintro e w' ⟨rfl, hw'⟩; subst w'
  go_wp2_with fail
  refine Calls.mono (Hid.out c3) ?_; rintro e w' ⟨rfl, hw'⟩; subst w'
  go_wp2_with fail
  refine Calls.mono (Hid.out c4) ?_; rintro e w1 ⟨rfl, h1, h2, h3, h4⟩
  have F0 : Hid (Fill w1 w1 w.heap.size n 0 (fun t => md k (D t * c)) D) := Fill.start _ h1 h2
  have hT1 : Tab w1 := hT.below h3 hlt
  have B1 : Hid _ := h3
  clear h1 h2 h3 c1 c2 c3 c4 hT
  go_wp2_with fail
  go_loopw [44] (fun vi wr => ∃ i : Nat, i ≤ n ∧ vi = .int .i64 i ∧ Fill w1 wr w.heap.size n i (fun t => md k (D t * c)) D) (fun vi _ => n - (intOf vi).toNat)
  case atStart => exact ⟨0, Nat.zero_le _, rfl, F0.out⟩
  case round =>
    obtain ⟨i, hi, rfl, hF⟩ := hrel
    have HF : Hid _ := hF
    have hf := hF.wrt.zero
    have hTr : Tab wr := hT1.wrote hF.wrote (fun o e => by omega)
    by_cases hlt2 : i < n
    · have hc : wr.cell? ⟨w.heap.size, i, none⟩ = some (.int .u64 (D i)) := by rw [hF.fam.zero i hlt2, mix_hi (Nat.le_refl _)]
      have HS : Hid _ := HF.out.step hlt2 (x := md k (D i * c)) rfl
      have hdi := hd0 i
      clear HF hF
      go_wp2_with fail
      refine Calls.mono (mul_any k (D i) c wr hTr hdi hi0) ?_; rintro e w' ⟨rfl, hw'⟩; subst w'
      go_wp2_with fail
      go_roundw
      case rel => exact ⟨i + 1, by omega, by go_num, HS.out⟩
      case measure => simp [intOf]; omega
    · have H1 : Hid (Fam wr w.heap.size 0 n (fun t => md k (D t * c))) := HF.out.fin (by omega)
      have H2 : Hid (Wrt wr w.heap.size 0 n) := hF.wrt
      have H3 : Hid (Below w.heap.size w wr) := B1.out.trans (HF.out.wrote.below (fun b o e => by omega))
      have H4 : Hid (w.heap.size < wr.heap.size) := by show w.heap.size < wr.heap.size; rw [HF.out.wrote.size]; exact h4
      clear hF HF hf
      go_wp2_with fail
      go_ret2
      exact ⟨rfl, H1.out, H2.out, H3.out, H4.out⟩

end Go.Proofs.YtlogdjhnhnfbkaaDoor

namespace Go.Proofs.YtlogdjhnhnfbkaaDoor
open Go.RowKit Res


theorem ps_succ (k r : Int) (L : Nat → Int) (i j : Nat) : md k (md k (sm i fun t => L t * r ^ (t * j)) + md k (L i * md k (r ^ (i * j)))) = md k (sm (i + 1) fun t => L t * r ^ (t * j)) := by
  rw [md_mul_r, md_add]; rfl
theorem pf_succ (k r : Int) (i j : Nat) : md k (md k (r ^ (i * j)) * md k (r ^ j)) = md k (r ^ ((i + 1) * j)) := by
  rw [md_mul, ← Int.pow_add, Nat.add_mul, Nat.one_mul]
theorem st_succ (k r : Int) (j : Nat) : md k (md k (r ^ j) * r) = md k (r ^ (j + 1)) := by rw [md_mul_l, ← Int.pow_succ]

end Go.Proofs.YtlogdjhnhnfbkaaDoor

namespace Go.Proofs.YtlogdjhnhnfbkaaDoor
open Go.RowKit Res

end Go.Proofs.YtlogdjhnhnfbkaaDoor

namespace Go.Proofs.YtlogdjhnhnfbkaaDoor
open Go.RowKit Res
attribute [local go_sem ↓] Go.wp_at_zero Go.wp_at_succ

/-- The product by transforms is the product that goes round. -/
theorem idft_mul (k : Int) (hp : pr k ≠ 0) (m n : Nat) (hn : n = 2 ^ m) (hm : m ≤ 12) (a b : Nat → Int) (t : Nat) (ht : t < n) : idft k m n (fun t => md k (dft k (rt k m) n a t * dft k (rt k m) n b t)) t = cyc k n a b t := by
  subst hn
  have h1 : (fun t => md k (dft k (rt k m) (2 ^ m) a t * dft k (rt k m) (2 ^ m) b t)) = dft k (rt k m) (2 ^ m) (cyc k (2 ^ m) a b) := by
    funext t
    exact (cyc_dft k (rt k m) (2 ^ m) (Nat.one_le_two_pow) (rt_full k hp m hm) a b t).symm
  unfold idft
  rw [h1]
  refine (dft_back k (rt k m) (ivr k m) (ivn k m) hp m (fun e => by subst e; exact rt_zero k hp) (rt_half k hp m hm) (ivr_mul k hp m hm) (ivn_mul k hp m hm) _ t ht).trans ?_
  exact md_md _ _

/-! the document's own -/
def cyp (k : Int) (n : Nat) (a b : Nat → Int) (i j t : Nat) : Int :=
  md k (sm i (fun i' => sm n fun j' => if (i' + j') % n = t then a i' * b j' else 0) + sm j (fun j' => if (i + j') % n = t then a i * b j' else 0))
theorem cyp_nonneg (k : Int) (n : Nat) (a b : Nat → Int) (i j t : Nat) : 0 ≤ cyp k n a b i j t := md_nonneg _ _
theorem cyp_at (k : Int) (n : Nat) (a b : Nat → Int) (i j t : Nat) (h : t = (i + j) % n) : md k (cyp k n a b i j t + md k (a i * b j)) = cyp k n a b i (j + 1) t := by
  subst h
  unfold cyp
  rw [md_add, sm, if_pos rfl, Int.add_assoc]
theorem cyp_off (k : Int) (n : Nat) (a b : Nat → Int) (i j t : Nat) (h : t ≠ (i + j) % n) : cyp k n a b i (j + 1) t = cyp k n a b i j t := by
  unfold cyp
  rw [sm, if_neg (fun e => h e.symm), Int.add_zero]
theorem cyp_row (k : Int) (n : Nat) (a b : Nat → Int) (i t : Nat) : cyp k n a b i n t = cyp k n a b (i + 1) 0 t := by
  unfold cyp
  rw [sm, sm, Int.add_zero]
theorem cyp_zero (k : Int) (n : Nat) (a b : Nat → Int) (t : Nat) : cyp k n a b 0 0 t = 0 := md_zero k
theorem cyp_fin (k : Int) (n : Nat) (a b : Nat → Int) (t : Nat) : cyp k n a b n 0 t = cyc k n a b t := by
  unfold cyp cyc
  rw [sm, Int.add_zero]
/-- A row at the head of block g, and what else is as it was. -/
structure RowAt (w1 wr : World) (g n : Nat) (G : Nat → Int) : Prop where
  fam : Fam wr g 0 n G
  wrt : Wrt wr g 0 n
  wrote : Wrote (fun b _ => b = g) w1 wr
theorem RowAt.step {w1 wr : World} {g n q : Nat} {G H : Nat → Int} {x : Int} (h : RowAt w1 wr g n G) (hq : q < n) (hx : x = H q) (ho : ∀ t, t < n → t ≠ q → H t = G t) : RowAt w1 (wr.setCell ⟨g, q, none⟩ (.int .u64 x)).drew g n H := by
  refine ⟨((h.fam.setCell_at hq (by omega) x).congr (fun t ht => ?_)).drew, (h.wrt.setCell _ _).drewN 1, (h.wrote.setCell rfl _).drew⟩
  by_cases e : t = q
  · subst e; rw [upd_at]; exact hx
  · rw [upd_off e, ho t ht e]

end Go.Proofs.YtlogdjhnhnfbkaaDoor
