/- Contract of ntt.transform: the row becomes its transform, by halves; the spare row is written over; nothing else turns. -/
import Derived.Test.YtcppcfbcgopmoaaDoorResWalks
import Derived.Test.YtcppcfbcgopmoaaDoorMem
import Derived.Test.YtcppcfbcgopmoaaDoorNttMath
import Derived.CellFam
import Derived.Deep.QuietTactic
import Derived.BigQuiet
import Derived.RegionTactic
import Derived.BigRegion
namespace Go.Proofs.YtcppcfbcgopmoaaDoor
open Go.RowKit Res

/-- Two ranges. -/
def Two (rb ro sb so n : Nat) (b o : Nat) : Prop := (b = rb ∧ ro ≤ o ∧ o < ro + n) ∨ (b = sb ∧ so ≤ o ∧ o < so + n)

/-- One round of the parting. -/
theorem split_rel {w wr : World} {sb so n h i : Nat} {G Hi : Nat → Int} (hn : 2 * h ≤ n) (hi : i < h) (hs : Fam wr sb so n Hi) (hv : ∀ t, t < i → Hi t = G (2 * t) ∧ Hi (h + t) = G (2 * t + 1)) (hw : Wrote (fun b o => b = sb ∧ so ≤ o ∧ o < so + n) w wr) :
    ∃ (i' : Nat) (Hi' : Nat → Int), i' ≤ h ∧ Value.int .i64 ((i : Int) + 1) = .int .i64 (i' : Int) ∧
      Fam ((wr.setCell ⟨sb, so + i, none⟩ (.int .u64 (G (2 * i)))).setCell ⟨sb, so + h + i, none⟩ (.int .u64 (G (2 * i + 1)))).drew sb so n Hi' ∧
      (∀ t, t < i' → Hi' t = G (2 * t) ∧ Hi' (h + t) = G (2 * t + 1)) ∧ Wrote (fun b o => b = sb ∧ so ≤ o ∧ o < so + n) w ((wr.setCell ⟨sb, so + i, none⟩ (.int .u64 (G (2 * i)))).setCell ⟨sb, so + h + i, none⟩ (.int .u64 (G (2 * i + 1)))).drew := by
  refine ⟨i + 1, upd (upd Hi i (G (2 * i))) (h + i) (G (2 * i + 1)), by omega, by go_num, ((hs.setCell (by omega) _).setCell_at (by omega) (by omega) _).drew, ?_, ((hw.setCell ⟨rfl, by omega, by omega⟩ _).setCell ⟨rfl, by omega, by omega⟩ _).drew⟩
  intro t ht
  by_cases e : t = i
  · subst e
    rw [upd_off (by omega), upd_at, upd_at]; exact ⟨rfl, rfl⟩
  · rw [upd_off (by omega), upd_off e, upd_off (by omega), upd_off (by omega)]; exact hv t (by omega)
/-- One round of the joining. -/
theorem merge_rel {w wr : World} {rb ro n h i : Nat} {L M Ri : Nat → Int} (hn : 2 * h ≤ n) (hi : i < h) (hs : Fam wr rb ro n Ri) (hv : ∀ t, t < i → Ri t = L t ∧ Ri (h + t) = M t) (hw : Wrote (fun b o => b = rb ∧ ro ≤ o ∧ o < ro + n) w wr) (x y : Int) (hx : x = L i) (hy : y = M i) (q : Nat) :
    ∃ (i' : Nat) (Ri' : Nat → Int), i' ≤ h ∧ Value.int .i64 ((i : Int) + 1) = .int .i64 (i' : Int) ∧
      Fam (((wr.setCell ⟨rb, ro + i, none⟩ (.int .u64 x)).setCell ⟨rb, ro + h + i, none⟩ (.int .u64 y)).drewN q) rb ro n Ri' ∧
      (∀ t, t < i' → Ri' t = L t ∧ Ri' (h + t) = M t) ∧ Wrote (fun b o => b = rb ∧ ro ≤ o ∧ o < ro + n) w (((wr.setCell ⟨rb, ro + i, none⟩ (.int .u64 x)).setCell ⟨rb, ro + h + i, none⟩ (.int .u64 y)).drewN q) := by
  refine ⟨i + 1, upd (upd Ri i x) (h + i) y, by omega, by go_num, ((hs.setCell (by omega) _).setCell_at (by omega) (by omega) _).drewN _, ?_, ((hw.setCell ⟨rfl, by omega, by omega⟩ _).setCell ⟨rfl, by omega, by omega⟩ _).drewN _⟩
  intro t ht
  by_cases e : t = i
  · subst e
    rw [upd_off (by omega), upd_at, upd_at]; exact ⟨hx, hy⟩
  · rw [upd_off (by omega), upd_off e, upd_off (by omega), upd_off (by omega)]; exact hv t (by omega)

set_option maxHeartbeats 1000000 in
theorem transform_step (k : Int) (hp : pr k ≠ 0) (h n st P : Nat) (hn1 : n ≤ 2 * h) (hn2 : 2 * h ≤ n) (hh0 : 1 ≤ h) (hh1 : h ≤ 2048) (r : Int) (hP : P = h * st) (hst : 1 ≤ st) (hPb : P ≤ 4096) (hx : md k (r ^ P) = pr k - 1)
    (rb ro cr sb so cs pb po cp : Nat) (hrs : rb ≠ sb) (hrp : rb ≠ pb) (hsp : sb ≠ pb) (hr0 : rb ≠ 0) (hs0 : sb ≠ 0) (hcr : n ≤ cr) (hcs : n ≤ cs)
    (G : Nat → Int) (w : World) (hT : Tab w) (hG0 : ∀ t, 0 ≤ G t) (hG1 : ∀ t, G t < pr k)
    (hrow : Fam w rb ro n G) (hrw : Wrt w rb ro n) (H : Nat → Int) (hsp' : Fam w sb so n H) (hsw : Wrt w sb so n) (hpw : Fam w pb po P (fun i => md k (r ^ i)))
    (ih : ∀ (rb ro cr sb so cs : Nat), rb ≠ sb → rb ≠ pb → sb ≠ pb → rb ≠ 0 → sb ≠ 0 → h ≤ cr → h ≤ cs → ∀ (G : Nat → Int) (w : World), Tab w → (∀ t, 0 ≤ G t) → (∀ t, G t < pr k) →
      Fam w rb ro h G → Wrt w rb ro h → ∀ (H : Nat → Int), Fam w sb so h H → Wrt w sb so h → Fam w pb po P (fun i => md k (r ^ i)) →
      Calls Tryd.prog 44 #[.int .i64 k, .slice (some ⟨rb, ro, none⟩) h cr, .slice (some ⟨sb, so, none⟩) h cs, .slice (some ⟨pb, po, none⟩) P cp] w fun e w' =>
        e = .returned (.tuple #[]) ∧ Fam w' rb ro h (dft k (r ^ (2 * st)) h G) ∧ (∃ H', Fam w' sb so h H') ∧ Wrote (Two rb ro sb so h) w w') :
    Calls Tryd.prog 44 #[.int .i64 k, .slice (some ⟨rb, ro, none⟩) n cr, .slice (some ⟨sb, so, none⟩) n cs, .slice (some ⟨pb, po, none⟩) P cp] w fun e w' =>
      e = .returned (.tuple #[]) ∧ Fam w' rb ro n (dft k (r ^ st) n G) ∧ (∃ H', Fam w' sb so n H') ∧ Wrote (Two rb ro sb so n) w w' := by
  have IH : Hid _ := ih
  clear ih
  have eh : (n : Int) / 2 = (h : Int) := by omega
  have enh : n - h = h := by omega
  have hci : (n : Int) ≤ (cs : Int) := by omega
  have hci2 : (n : Int) ≤ (cr : Int) := by omega
  have HP : Hid (P = h * st) := hP
  clear hP
  have HX : Hid _ := hx
  clear hx
  go_enter Tryd.func44, Tryd.ntmps44
  go_wp2_with fail
  go_quiet (fail)
  go_wp2_with fail
  go_loopw [35] (fun vi wr => ∃ (i : Nat) (Hi : Nat → Int), i ≤ h ∧ vi = .int .i64 i ∧ Fam wr sb so n Hi ∧ (∀ t, t < i → Hi t = G (2 * t) ∧ Hi (h + t) = G (2 * t + 1)) ∧ Wrote (fun b o => b = sb ∧ so ≤ o ∧ o < so + n) w wr) (fun vi _ => h - (intOf vi).toNat)
  case atStart => exact ⟨0, H, Nat.zero_le _, rfl, hsp', fun t ht => by omega, (Wrote.refl _ _).drewN _⟩
  case round =>
    obtain ⟨i, Hi, hi, rfl, hfs, hval, hwr⟩ := hrel
    have hfr : Fam wr rb ro n G := hwr.fam hrow (fun t _ e => hrs e.1)
    have hws : Wrt wr sb so n := hwr.wrt hsw
    have hTr : Tab wr := hT.wrote hwr (fun o e => hs0 e.1.symm)
    have Hv : Hid _ := hval
    have Hw : Hid _ := hwr
    have Hs : Hid (Fam wr sb so n Hi) := hfs
    clear hval hwr
    by_cases hlt : i < h
    · unfold Fam at hfr hfs
      unfold Wrt at hws
      go_wp2_with fail
      go_region
      all_goals go_wp2_with fail
      go_roundw
      case rel => exact split_rel hn2 hlt Hs.out Hv.out Hw.out
      case measure => simp [intOf]; omega
    · have hih : h = i := by omega
      have hv := Hv.out
      have hw1 := Hw.out
      have hs1 := Hs.out
      clear Hv Hw Hs hfs hsp' hrow hT hlt hi
      subst hih
      have hpw1 : Fam wr pb po P (fun i => md k (r ^ i)) := hw1.fam hpw (fun t _ e => hsp e.1.symm)
      have hrw1 : Wrt wr rb ro n := hw1.wrt hrw
      have hfe : Fam wr sb so h (fun t => G (2 * t)) := (hs1.head h (by omega)).congr (fun t ht => (hv t ht).1)
      have hfo : Fam wr sb (so + h) h (fun t => G (2 * t + 1)) := (hs1.part h h (by omega)).congr (fun t ht => (hv t ht).2)
      have HW1 : Hid (Wrote (Two rb ro sb so n) w wr) := hw1.mono (fun b o e => Or.inr e)
      clear hv hs1 hpw hrw hsw hw1
      go_wp2_with fail
      go_quiet (fail)
      go_wp2_with fail
      refine Calls.mono (IH.out sb so h rb ro h (Ne.symm hrs) hsp hrp hs0 hr0 (Nat.le_refl _) (Nat.le_refl _) (fun t => G (2 * t)) (wr.drewN nq) (hTr.drewN' nq) (fun t => hG0 _) (fun t => hG1 _) hfe (hws.head h (by omega)) G (hfr.head h (by omega)) (hrw1.head h (by omega)) hpw1) ?_
      rintro e w1 ⟨rfl, e1, ⟨H1, s1⟩, x1⟩
      have hT1 : Tab w1 := (hTr.drewN' nq).wrote x1 (fun o e => by rcases e with ⟨e, _⟩ | ⟨e, _⟩; (exact hs0 e.symm); exact hr0 e.symm)
      have o1 : Fam w1 sb (so + h) h (fun t => G (2 * t + 1)) := x1.fam (hfo.drewN nq) (fun t ht e => by rcases e with ⟨_, e1, e2⟩ | ⟨e, _⟩; (omega); exact hrs e.symm)
      have p1 : Fam w1 pb po P (fun i => md k (r ^ i)) := x1.fam (hpw1.drewN nq) (fun t ht e => by rcases e with ⟨e, _⟩ | ⟨e, _⟩; (exact hsp e.symm); exact hrp e.symm)
      have r1 : Fam w1 rb (ro + h) h (fun t => G (h + t)) := x1.fam ((Fam.part hfr h h (by omega)).drewN nq) (fun t ht e => by rcases e with ⟨e, _⟩ | ⟨_, e1, e2⟩; (exact hrs e); omega)
      have y1 : Wrt w1 sb so n := x1.wrt (Wrt.drewN hws nq)
      have z1 : Wrt w1 rb ro n := x1.wrt (Wrt.drewN hrw1 nq)
      have HW2 : Hid (Wrote (Two rb ro sb so n) w w1) := (HW1.out.drewN nq).trans (x1.mono (fun b o e => by rcases e with ⟨e, e1, e2⟩ | ⟨e, e1, e2⟩; (exact Or.inr ⟨e, by omega, by omega⟩); exact Or.inl ⟨e, by omega, by omega⟩))
      clear hTr hpw1 hrw1 hfe hfo HW1 x1 hws hfr
      go_wp2_with fail
      refine Calls.mono (IH.out sb (so + h) h rb (ro + h) h (Ne.symm hrs) hsp hrp hs0 hr0 (Nat.le_refl _) (Nat.le_refl _) (fun t => G (2 * t + 1)) w1 hT1 (fun t => hG0 _) (fun t => hG1 _) o1 (y1.part h h (by omega)) (fun t => G (h + t)) r1 (z1.part h h (by omega)) p1) ?_
      rintro e w2 ⟨rfl, o2, ⟨H2, s2⟩, x2⟩
      have hT2 : Tab w2 := hT1.wrote x2 (fun o e => by rcases e with ⟨e, _⟩ | ⟨e, _⟩; (exact hs0 e.symm); exact hr0 e.symm)
      have e2 : Fam w2 sb so h (dft k (r ^ (2 * st)) h fun t => G (2 * t)) := x2.fam e1 (fun t ht e => by rcases e with ⟨_, e1, e2⟩ | ⟨e, _⟩; (omega); exact hrs e.symm)
      have p2 : Fam w2 pb po P (fun i => md k (r ^ i)) := x2.fam p1 (fun t ht e => by rcases e with ⟨e, _⟩ | ⟨e, _⟩; (exact hsp e.symm); exact hrp e.symm)
      have s12 : Fam w2 rb ro h H1 := x2.fam s1 (fun t ht e => by rcases e with ⟨e, _⟩ | ⟨_, e1, e2⟩; (exact hrs e); omega)
      have r2 := (s12.join s2).head n (by omega)
      have z2 : Wrt w2 rb ro n := x2.wrt z1
      have f2 := (e2.join o2).head n (by omega)
      have HW3 : Hid (Wrote (Two rb ro sb so n) w w2) := HW2.out.trans (x2.mono (fun b o e => by rcases e with ⟨e, e1, e2⟩ | ⟨e, e1, e2⟩; (exact Or.inr ⟨e, by omega, by omega⟩); exact Or.inl ⟨e, by omega, by omega⟩))
      clear hT1 o1 p1 r1 y1 z1 HW2 x2 s1 s2 s12 e1 nq wr IH
      generalize (fun t => if t < h then H1 t else H2 (t - h)) = R0 at r2
      have hE : ∀ t, 0 ≤ dft k (r ^ (2 * st)) h (fun t => G (2 * t)) t ∧ dft k (r ^ (2 * st)) h (fun t => G (2 * t)) t ≤ 998244352 := fun t => ⟨dft_nonneg _ _ _ _ _, dft_le _ _ _ _ _⟩
      have hO : ∀ t, 0 ≤ dft k (r ^ (2 * st)) h (fun t => G (2 * t + 1)) t ∧ dft k (r ^ (2 * st)) h (fun t => G (2 * t + 1)) t ≤ 998244352 := fun t => ⟨dft_nonneg _ _ _ _ _, dft_le _ _ _ _ _⟩
      have hpw0 : ∀ t, 0 ≤ md k (r ^ t) ∧ md k (r ^ t) ≤ 998244352 := fun t => ⟨md_nonneg _ _, md_le _ _⟩
      have hL : Hid (∀ t, t < h → dft k (r ^ st) n G t = md k (dft k (r ^ (2 * st)) h (fun t => G (2 * t)) t + md k (dft k (r ^ (2 * st)) h (fun t => G (2 * t + 1)) t * md k (r ^ (t * st))))) := fun t _ => by
        have := bfly_low k (r ^ st) h G t
        rw [show 2 * h = n by omega, show r ^ st * r ^ st = r ^ (2 * st) by rw [← Int.pow_add, Nat.two_mul], ← Int.pow_mul, Nat.mul_comm st t] at this
        exact this
      have hM : Hid (∀ t, t < h → dft k (r ^ st) n G (h + t) = md k (dft k (r ^ (2 * st)) h (fun t => G (2 * t)) t + pr k - md k (dft k (r ^ (2 * st)) h (fun t => G (2 * t + 1)) t * md k (r ^ (t * st))))) := fun t _ => by
        have := bfly_high k (r ^ st) hp h (by rw [← Int.pow_mul, Nat.mul_comm, ← HP.out]; exact HX.out) G t
        rw [show 2 * h = n by omega, show r ^ st * r ^ st = r ^ (2 * st) by rw [← Int.pow_add, Nat.two_mul], ← Int.pow_mul, Nat.mul_comm st t] at this
        exact this
      generalize (dft k (r ^ (2 * st)) h fun t => G (2 * t)) = E at *
      generalize (dft k (r ^ (2 * st)) h fun t => G (2 * t + 1)) = O at *
      generalize hPW : (fun i => md k (r ^ i)) = PW at p2
      have hpwe : ∀ t, md k (r ^ t) = PW t := fun t => by rw [← hPW]
      have hPb : ∀ t, 0 ≤ PW t ∧ PW t ≤ 998244352 := fun t => by rw [← hpwe]; exact hpw0 t
      have HPW : Hid (∀ t, md k (r ^ t) = PW t) := hpwe
      clear hPW hpwe hpw0
      have F2 : Hid _ := f2
      clear f2
      have est : (P : Int) / (h : Int) = (st : Int) := by
        rw [HP.out, Int.natCast_mul]; exact Int.mul_ediv_cancel_left _ (by omega)
      have hstb : st ≤ 4096 := by have := HP.out; have := Nat.le_mul_of_pos_left st (show 0 < h by omega); omega
      have hhne : ((h : Int) == 0) = false := beq_eq_false_iff_ne.2 (by omega)
      have hhi : (1 : Int) ≤ (h : Int) := by omega
      have hpr0 : 167772161 ≤ pr k := pr_pos hp
      have hpr1 : pr k ≤ 998244353 := (pr_bd k).2
      clear hG0 hG1 hp
      go_wp2_with fail
      go_quiet ((go_at_call 40; exact Calls.quiet_of_same (prime_any _ _ hT2)))
      go_wp2_with fail
      go_loopw [82] (fun vi wr => ∃ (i : Nat) (Ri : Nat → Int), i ≤ h ∧ vi = .int .i64 i ∧ Fam wr rb ro n Ri ∧ (∀ t, t < i → Ri t = dft k (r ^ st) n G t ∧ Ri (h + t) = dft k (r ^ st) n G (h + t)) ∧ Wrote (fun b o => b = rb ∧ ro ≤ o ∧ o < ro + n) w2 wr) (fun vi _ => h - (intOf vi).toNat)
      case atStart => exact ⟨0, R0, Nat.zero_le _, rfl, r2, fun t ht => by omega, (Wrote.refl _ _).drewN _⟩
      case round =>
        obtain ⟨i, Ri, hi, rfl, hfr, hval, hwr⟩ := hrel
        have hT3 : Tab wr := hT2.wrote hwr (fun o e => hr0 e.1.symm)
        have e3 : Fam wr sb so h E := hwr.fam e2 (fun t _ e => hrs e.1.symm)
        have o3 : Fam wr sb (so + h) h O := hwr.fam o2 (fun t _ e => hrs e.1.symm)
        have p3 : Fam wr pb po P PW := hwr.fam p2 (fun t _ e => hrp e.1.symm)
        have z3 : Wrt wr rb ro n := hwr.wrt z2
        have Hv : Hid _ := hval
        have Hw : Hid _ := hwr
        have Hs : Hid (Fam wr rb ro n Ri) := hfr
        clear hval hwr hT2 e2 o2 p2 z2 r2
        by_cases hlt : i < h
        · obtain ⟨q, hq⟩ : ∃ q : Nat, q = i * st := ⟨_, rfl⟩
          have hqP : q < P := by rw [hq, HP.out]; exact Nat.mul_lt_mul_of_pos_right hlt hst
          have eq : (i : Int) * (st : Int) = (q : Int) := by rw [hq, Int.natCast_mul]
          have Hq : Hid (q = i * st) := hq
          clear hq
          have hEi := hE i
          have hOi := hO i
          have hPi := hPb q
          have hx0 : 0 ≤ O i * PW q := Int.mul_nonneg hOi.1 hPi.1
          have hx1 : O i * PW q ≤ 998244352 * 998244352 := Int.mul_le_mul hOi.2 hPi.2 hPi.1 (by omega)
          have ht0 := md_nonneg k (O i * PW q)
          have ht1 := md_le_pr k (O i * PW q)
          have hlow : Hid (md k (E i + md k (O i * PW q)) = dft k (r ^ st) n G i) := by
            have := hL.out i hlt
            rw [HPW.out, ← Hq.out] at this
            exact this.symm
          have hhigh : Hid (md k (E i + pr k - md k (O i * PW q)) = dft k (r ^ st) n G (h + i)) := by
            have := hM.out i hlt
            rw [HPW.out, ← Hq.out] at this
            exact this.symm
          clear hE hO hPb
          unfold Fam at e3 o3 p3 hfr
          unfold Wrt at z3
          go_wp2_with fail
          go_quiet ((go_at_call 43; exact Calls.quiet_of_same (of_any _ _ _ hT3 (by omega))))
          go_wp2_with fail
          refine Calls.mono (of_any k (E i + md k (O i * PW q)) (wr.drewN nq) (hT3.drewN' nq) (by omega)) ?_; rintro e w' ⟨rfl, hw'⟩; subst w'
          go_wp2_with fail
          refine Calls.mono (of_any k (E i + pr k - md k (O i * PW q)) _ ((Tab.setCell hT3 hr0 _).drewN' nq) (by omega)) ?_; rintro e w' ⟨rfl, hw'⟩; subst w'
          go_wp2_with fail
          go_roundw
          case rel => exact merge_rel (L := fun t => dft k (r ^ st) n G t) (M := fun t => dft k (r ^ st) n G (h + t)) hn2 hlt Hs.out Hv.out Hw.out _ _ hlow.out hhigh.out _
          case measure => simp [intOf]; omega
        · have hih : h = i := by omega
          subst hih
          have hfin : Hid (Fam wr rb ro n (dft k (r ^ st) n G)) := Hs.out.congr (fun t ht => by
            by_cases e : t < h
            · exact (Hv.out t e).1
            · have := (Hv.out (t - h) (by omega)).2
              rwa [show h + (t - h) = t by omega] at this)
          have hall : Hid (Wrote (Two rb ro sb so n) w wr) := HW3.out.trans (Hw.out.mono (fun b o e => Or.inl e))
          have hspare : Hid (∃ H', Fam wr sb so n H') := ⟨_, Hw.out.fam F2.out (fun t _ e => hrs e.1.symm)⟩
          clear hE hO hPb e3 o3 p3 z3 hT3
          go_wp2_with fail
          go_end0
          exact ⟨rfl, hfin.out, hspare.out, hall.out⟩

set_option maxHeartbeats 400000 in
theorem transform_one (k : Int) (n : Nat) (hn : n = 1) (r : Int) (P rb ro cr sb so cs pb po cp st : Nat) (G : Nat → Int) (w : World) (hG0 : ∀ t, 0 ≤ G t) (hG1 : ∀ t, G t < pr k) (hrow : Fam w rb ro n G) (H : Nat → Int) (hs : Fam w sb so n H) :
    Calls Tryd.prog 44 #[.int .i64 k, .slice (some ⟨rb, ro, none⟩) n cr, .slice (some ⟨sb, so, none⟩) n cs, .slice (some ⟨pb, po, none⟩) P cp] w fun e w' =>
      e = .returned (.tuple #[]) ∧ Fam w' rb ro n (dft k (r ^ st) n G) ∧ (∃ H', Fam w' sb so n H') ∧ Wrote (Two rb ro sb so n) w w' := by
  have F1 : Hid (Fam w rb ro n (dft k (r ^ st) n G)) := hrow.congr (fun t ht => by
    subst hn
    obtain rfl : t = 0 := by omega
    rw [dft_one, md_of_lt (hG0 0) (hG1 0)])
  have F2 : Hid (∃ H', Fam w sb so n H') := ⟨H, hs⟩
  have hb : ((n : Int) == 1) = true := beq_iff_eq.2 (by omega)
  clear hrow hs hn hG0 hG1
  go_enter Tryd.func44, Tryd.ntmps44
  go_wp2_with fail
  exact bodyPost_ret (results_none (by rfl) _ _ _) rfl ⟨rfl, F1.out, F2.out, Wrote.refl _ _⟩

theorem transform_any (k : Int) (hp : pr k ≠ 0) (r : Int) (P pb po cp : Nat) (hPb : P ≤ 4096) (m : Nat) : ∀ (n st : Nat), n = 2 ^ m → 1 ≤ st → m ≤ 12 → (m = 0 ∨ (P = 2 ^ (m - 1) * st ∧ md k (r ^ P) = pr k - 1)) →
    ∀ (rb ro cr sb so cs : Nat), rb ≠ sb → rb ≠ pb → sb ≠ pb → rb ≠ 0 → sb ≠ 0 → n ≤ cr → n ≤ cs → ∀ (G : Nat → Int) (w : World), Tab w → (∀ t, 0 ≤ G t) → (∀ t, G t < pr k) →
      Fam w rb ro n G → Wrt w rb ro n → ∀ (H : Nat → Int), Fam w sb so n H → Wrt w sb so n → Fam w pb po P (fun i => md k (r ^ i)) →
      Calls Tryd.prog 44 #[.int .i64 k, .slice (some ⟨rb, ro, none⟩) n cr, .slice (some ⟨sb, so, none⟩) n cs, .slice (some ⟨pb, po, none⟩) P cp] w fun e w' =>
        e = .returned (.tuple #[]) ∧ Fam w' rb ro n (dft k (r ^ st) n G) ∧ (∃ H', Fam w' sb so n H') ∧ Wrote (Two rb ro sb so n) w w' := by
  induction m with
  | zero =>
    intro n st hn _ _ _ rb ro cr sb so cs _ _ _ _ _ _ _ G w _ hG0 hG1 hrow _ H hs _ _
    exact transform_one k n (by simpa using hn) r P rb ro cr sb so cs pb po cp st G w hG0 hG1 hrow H hs
  | succ m ih =>
    intro n st hn hst hm hP rb ro cr sb so cs h1 h2 h3 h4 h5 h6 h7 G w hT hG0 hG1 hrow hrw H hs hsw hpw
    have hP' : P = 2 ^ m * st ∧ md k (r ^ P) = pr k - 1 := by rcases hP with h | h; (exact absurd h (by omega)); exact h
    have hpow : 2 ^ m ≤ 2 ^ 11 := Nat.pow_le_pow_right (by omega) (by omega)
    have hpos : 1 ≤ 2 ^ m := Nat.one_le_two_pow
    have hn' : n = 2 * 2 ^ m := by rw [hn, Nat.pow_succ, Nat.mul_comm]
    refine transform_step k hp (2 ^ m) n st P (by omega) (by omega) hpos (by omega) r hP'.1 hst hPb hP'.2 rb ro cr sb so cs pb po cp h1 h2 h3 h4 h5 h6 h7 G w hT hG0 hG1 hrow hrw H hs hsw hpw ?_
    intro rb ro cr sb so cs g1 g2 g3 g4 g5 g6 g7 G w gT gG0 gG1 grow grw H gs gsw gpw
    refine ih (2 ^ m) (2 * st) rfl (by omega) (by omega) ?_ rb ro cr sb so cs g1 g2 g3 g4 g5 g6 g7 G w gT gG0 gG1 grow grw H gs gsw gpw
    cases m with
    | zero => exact Or.inl rfl
    | succ m =>
      refine Or.inr ⟨?_, hP'.2⟩
      rw [hP'.1, show m + 1 - 1 = m by omega, Nat.pow_succ, Nat.mul_assoc]
end Go.Proofs.YtcppcfbcgopmoaaDoor
