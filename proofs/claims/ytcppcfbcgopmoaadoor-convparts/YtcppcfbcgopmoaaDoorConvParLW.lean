/- The walk of 'beaglelaw04.ConvParts': it answers true; nothing that was there is turned. For the statement's proof. -/
import Derived.OpenShut
import Derived.ProofKit
import Derived.Test.YtcppcfbcgopmoaaDoorConvPar
namespace Go.Proofs.YtcppcfbcgopmoaaDoor.convParts
open Go.ChangeShapes Go.WideShapes Go.ChangeAt Go.RowKit Res
set_option linter.unusedVariables false

set_option maxHeartbeats 4000000 in
theorem walk (s : Option Addr) (n cap : Nat) (L : Nat → Int) (s2 : Option Addr) (n2 cap2 : Nat) (L2 : Nat → Int) (w : World) (hl : Sl w s n cap L) (hl2 : Sl w s2 n2 cap2 L2) (hT : Tab w) :
    Calls Tryd.prog 9 #[.slice s n cap, .slice s2 n2 cap2] w fun e w' => e = .returned (.bool true) ∧ Below w.heap.size w w' := by
  have al : Hid _ := alive_any
  by_cases hf : n ≤ 300 ∧ n2 ≤ 300
  · have c0 : Hid _ := few_yes s s2 n n2 cap cap2 hf.1 hf.2 w
    have h1 := hf.1
    have h2 := hf.2
    obtain ⟨i0, hi, hz0, hz1, hz2⟩ := info_parts infoU
    obtain ⟨go, gc, w1, hap0, lg, b1⟩ := copy_of s n cap L w hl
    have hap : Hid _ := hap0
    clear hap0
    have c1 : Hid _ := correlate_any s s2 n n2 cap cap2 (by omega) (by omega) L L2 hl.lo hl2.lo hl.hi hl2.hi w1 (hl.row.below b1 (Nat.le_refl _)) (hl2.row.below b1 (Nat.le_refl _))
    obtain ⟨D, hD⟩ : ∃ D : Nat → Int, ∀ t, D t = L (n - 1 - t) := ⟨_, fun _ => rfl⟩
    have hDe : D = fun t => L (n - 1 - t) := funext hD
    have hD0 : ∀ t, 0 ≤ D t := fun t => by rw [hD]; exact hl.lo _
    have hD1 : ∀ t, D t ≤ 18446744073709551615 := fun t => by rw [hD]; exact hl.hi _
    have hgr : gr n D = gr n L := by rw [hDe]; exact gr_rev n L hl.lo
    have c2 : Hid _ := fun (v : World) (hb : Below w.heap.size w v) (bo : Option Addr) (bc : Nat) (lb : Lies v bo n D) => school_any s2 bo n2 n cap2 bc (by omega) (by omega) L2 D hl2.lo hD0 hl2.hi hD1 v (hl2.row.below hb (Nat.le_refl _)) lb
    have HA : Hid (n = 0 ∨ n2 < n → kl n n2 L L2 = 0 ∧ kc n n2 L L2 = 0) := fun h => ⟨kl_none h, kc_none h⟩
    have HB : Hid (¬ (n = 0 ∨ n2 < n) → ec n2 n L2 D = kc n n2 L L2) := fun h => by rw [kc_some h, ec_some (by omega), er_comm, hgr]
    have HC : Hid (∀ N p, n + n2 = N + 1 → p + 1 = n → n ≤ n2 → kc n n2 L L2 = 0 → kl n n2 L L2 = n2 - p ∧ (∀ t, t < n2 - p → cv n2 n L2 D (p + t) = cr n L L2 t) ∧ ∀ (v : World) (_ : Below w.heap.size w v) (bo : Option Addr) (bc : Nat) (_ : Lies v bo n D), Calls Tryd.prog 16 #[.slice s2 n2 cap2, .slice bo n bc] v fun e w' => ∃ g, e = .returned (.tuple #[.slice (some ⟨g, 0, none⟩) N N, .int .i64 0]) ∧ Fam w' g 0 N (cv n2 n L2 D) ∧ Below v.heap.size v w') := fun N p hN hp hle h => by
      have hno : ¬ (n = 0 ∨ n2 < n) := by omega
      rw [kc_some hno] at h
      refine ⟨by rw [kl_ok hno h]; omega, fun t ht => ?_, fun v hb bo bc lb => ?_⟩
      · rw [hDe, show p + t = t + n - 1 by omega]
        exact cr_cv n n2 L L2 t (by omega)
      · exact school_row s2 bo n2 n cap2 bc N (by omega) (by omega) (by omega) L2 D hl2.lo hD0 hl2.hi hD1 (by rw [er_comm, hgr]; exact h) v (hl2.row.below hb (Nat.le_refl _)) lb
    have hK : kl n n2 L L2 ≤ 4097 := kl_le _ _ _ _
    have R1 : Hid (Lies w s n L) := hl.row
    have Lg : Hid (Lies w1 go n L) := lg
    have B1 : Hid (Below w.heap.size w w1) := b1
    have T1 : Tab w1 := hT.below b1 (tab_lt hT)
    have hDx : Hid (∀ t r, t < n → r = n - 1 - t → L r = D t) := fun t r _ hr => by rw [hD, hr]
    clear hl hl2 hf lg b1 hT hD hDe hD0 hD1 hgr
    generalize kl n n2 L L2 = K at *
    generalize kc n n2 L L2 = E at *
    generalize cr n L L2 = G at *
    generalize ln n2 n L2 D = M at *
    generalize ec n2 n L2 D = E2 at *
    generalize cv n2 n L2 D = Z at *
    go_enter Tryd.func9, Tryd.ntmps9
    go_wp2_with fail
    refine Calls.mono (Hid.out c0) ?_; rintro e w' ⟨rfl, hw'⟩; subst w'
    go_wp2_with (at_builtin; refine wpList_append_eq rfl _ _ 22 rfl _ _ _ _ rfl rfl hap.out ?_)
    go_wp2_with fail
    refine Calls.mono (Hid.out c1) ?_; rintro e w2 ⟨xo, xc, rfl, lx, b2⟩
    have T2 : Tab w2 := T1.below b2 (tab_lt T1)
    have B2 : Hid (Below w.heap.size w w2) := B1.out.trans (b2.mono B1.out.size)
    have X2 : Hid (Lies w2 xo K G) := lx
    have Lg2 : Hid (Lies w2 go n L) := Lies.below Lg.out b2 (Nat.le_refl _)
    have P2 : Hid (Lies w2 s n L) := Lies.below R1.out B2.out (Nat.le_refl _)
    have hs2 : w.heap.size ≤ w2.heap.size := B2.out.size
    have hlt2 := tab_lt T2
    clear lx b2 c0 c1 hap Lg B1 T1 R1
    go_wp2_with fail
    go_loopw [8, 28] (fun vo vi wr => ∃ i : Nat, i ≤ n ∧ vi = .int .i64 i ∧ Own wr w2.heap.size vo i D ∧ Below w2.heap.size w2 wr) (fun _ vi _ => n - (intOf vi).toNat)
    case atStart => exact ⟨0, Nat.zero_le _, rfl, own_nil _ _ _, Below.refl _ _⟩
    case round =>
      obtain ⟨i, hile, rfl, hown, hbel⟩ := hrel
      have Hown : Hid (Own wr w2.heap.size u8 i D) := hown
      have Hbel : Hid (Below w2.heap.size w2 wr) := hbel
      have hsz : w2.heap.size ≤ wr.heap.size := hbel.size
      by_cases hin : i < n
      · obtain ⟨b, o, rfl, hfp⟩ := P2.out (by omega)
        obtain ⟨r, hr⟩ : ∃ r, r = n - 1 - i := ⟨_, rfl⟩
        have hc : wr.cell? ⟨b, o + r, none⟩ = some (.int .u64 (D i)) := by rw [← hDx.out i r hin hr]; exact Fam.below hfp hbel (Fam.lt hfp (by omega)) r (by omega)
        have hrI : (n : Int) - 1 - (i : Int) = (r : Int) := by omega
        have hrn : r < n := by omega
        have hinI : (i : Int) < (n : Int) := by omega
        unfold Own at hown
        clear hbel hfp hr
        go_wp2_with (at_builtin; refine wpList_append_own _ rfl _ _ 22 rfl w2.heap.size 26 i0 (.int .u64 0) 1 8 Tryd.underlying22 hi hz0 hz1 hz2 rfl (by decide) _ _ _ rfl (hown.alloc _) ⟨wr.heap.size, 0, none⟩ 1 1 [.int .u64 (D i)] rfl rfl ?c1 ?c2 ?c3 ?c4 ?c5 ?_)
        case c1 =>
          intro j' u hj'
          match j', hj' with
          | 0, hj' => simp at hj'; subst hj'; simp [Addr.add]
        case c2 => intro u hu; simp at hu; subst hu; rfl
        case c3 => unfold maxLen; omega
        case c4 => omega
        case c5 => simp; omega
        · intro v' w3 hown' hgrow _
          have R := own_step rfl hsz Hbel.out Hown.out hown' hgrow
          have HR : Hid _ := R
          clear R hown' hgrow hown Hown Hbel
          go_wp2_with fail
          go_roundw
          case rel => exact ⟨i + 1, by omega, by go_num, HR.out.1, HR.out.2⟩
          case measure => simp [intOf]; omega
      · obtain rfl : i = n := by omega
        obtain ⟨bo, bc, rfl, lb⟩ := own_lies Hown.out
        have Tr : Tab wr := T2.below hbel hlt2
        have Br : Hid (Below w.heap.size w wr) := B2.out.trans (hbel.mono hs2)
        have Xr : Hid (Lies wr xo K G) := Lies.below X2.out hbel (Nat.le_refl _)
        have Gr : Hid (Lies wr go i L) := Lies.below Lg2.out hbel (Nat.le_refl _)
        have Pr : Hid (Lies wr s i L) := Lies.below P2.out hbel (Nat.le_refl _)
        have hsr : w.heap.size ≤ wr.heap.size := Br.out.size
        have Lb : Hid (Lies wr bo i D) := lb
        clear hown hbel Hown Hbel lb X2 Lg2 P2 B2 T2
        by_cases hA : i = 0 ∨ n2 < i
        · obtain ⟨rfl, rfl⟩ := HA.out hA
          have c2' : Hid _ := c2.out wr Br.out bo bc Lb.out
          have hbad : Hid (((i : Int) == 0) = true ∨ (((i : Int) == 0) = false ∧ (n2 : Int) < (i : Int))) := by
            show _ ∨ _
            by_cases h0 : i = 0
            · exact Or.inl (beq_iff_eq.2 (by omega))
            · exact Or.inr ⟨beq_eq_false_iff_ne.2 (by omega), by omega⟩
          clear HB HC c2 hA HA
          go_wp2_with fail
          refine Calls.mono (Hid.out c2') ?_; rintro e w4 ⟨yo, yc, rfl, ly, b4⟩
          have T4 : Tab w4 := Tr.below b4 (tab_lt Tr)
          have B4 : Hid (Below w.heap.size w w4) := Br.out.trans (b4.mono hsr)
          have al4 : Hid _ := al.out w4 T4
          have hs4 := B4.out.size
          clear b4 ly
          rcases hbad.out with h0 | ⟨h0, h0'⟩
          · clear hbad
            go_wp2_with fail
            refine Calls.mono (Hid.out al4) ?_; rintro e w5 ⟨rfl, b5⟩
            have B5 : Hid (Below w.heap.size w w5) := B4.out.trans (b5.mono hs4)
            clear b5
            go_wp2_with fail
            go_ret
            exact ⟨rfl, B5.out⟩
          · clear hbad
            go_wp2_with fail
            refine Calls.mono (Hid.out al4) ?_; rintro e w5 ⟨rfl, b5⟩
            have B5 : Hid (Below w.heap.size w w5) := B4.out.trans (b5.mono hs4)
            clear b5
            go_wp2_with fail
            go_ret
            exact ⟨rfl, B5.out⟩
        · have h0 : ((i : Int) == 0) = false := beq_eq_false_iff_ne.2 (by omega)
          have h0' : (i : Int) ≤ (n2 : Int) := by omega
          by_cases hE : E = 0
          · subst hE
            obtain ⟨N, hN⟩ : ∃ N, i + n2 = N + 1 := ⟨i + n2 - 1, by omega⟩
            obtain ⟨p, hp⟩ : ∃ p, p + 1 = i := ⟨i - 1, by omega⟩
            obtain ⟨hKe, hZ, c3⟩ := HC.out N p hN hp (by omega) rfl
            have c3' : Hid _ := c3 wr Br.out bo bc Lb.out
            have HZ : Hid _ := hZ
            have hNI : (i : Int) + (n2 : Int) - 1 = (N : Int) := by omega
            have hpI : (i : Int) - 1 = (p : Int) := by omega
            have hkr : n2 - p = K := hKe.symm
            have hKN : Hid (p + K ≤ N) := by show _ ≤ _; omega
            have hpn : p < n2 := by omega
            have hn2N : n2 ≤ N := by omega
            rw [hkr] at HZ
            clear HA HB HC c2 c3 hA hZ hKe hp hN
            go_wp2_with fail
            refine Calls.mono (Hid.out c3') ?_; rintro e w4 ⟨g, rfl, fy, b4⟩
            have T4 : Tab w4 := Tr.below b4 (tab_lt Tr)
            have B4 : Hid (Below w.heap.size w w4) := Br.out.trans (b4.mono hsr)
            have X4 : Hid (Lies w4 xo K G) := Lies.below Xr.out b4 (Nat.le_refl _)
            have G4 : Hid (Lies w4 go i L) := Lies.below Gr.out b4 (Nat.le_refl _)
            have P4 : Hid (Lies w4 s i L) := Lies.below Pr.out b4 (Nat.le_refl _)
            have fy2 := fy.part p K hKN.out
            rw [Nat.zero_add] at fy2
            have Y4 : Hid (Lies w4 (some ⟨g, p, none⟩) K G) := fun _ => ⟨g, p, rfl, fy2.congr HZ.out⟩
            have al4 : Hid _ := al.out w4 T4
            have hs4 := B4.out.size
            clear b4 fy fy2 c3' Xr Gr Pr HZ hKN
            have hself : ((N : Int) == (N : Int)) = true := beq_iff_eq.2 rfl
            go_wp2_with fail
            refine Calls.mono (Hid.out al4) ?_; rintro e w5 ⟨rfl, b5⟩
            have B5 : Hid (Below w.heap.size w w5) := B4.out.trans (b5.mono hs4)
            have G5 : Hid (Lies w5 go i L) := Lies.below G4.out b5 (Nat.le_refl _)
            have P5 : Hid (Lies w5 s i L) := Lies.below P4.out b5 (Nat.le_refl _)
            have c4 : Hid _ := fun (yc : Nat) => same_lies K (by omega) xo (some ⟨g, p, none⟩) xc yc G G (fun _ _ => rfl) w5 (Lies.below X4.out b5 (Nat.le_refl _)) (Lies.below Y4.out b5 (Nat.le_refl _))
            clear b5 al4 B4 G4 P4 X4 Y4
            go_wp2_with fail
            refine Calls.mono (c4.out _) ?_; rintro e w6 ⟨rfl, q6, hw6⟩
            have B6 : Hid (Below w.heap.size w w6) := by show Below _ _ _; rw [hw6]; exact below_drewN B5.out q6
            have c5 : Hid _ := same_lies i (by omega) s go cap gc L L (fun _ _ => rfl) w6 (by rw [hw6]; exact P5.out) (by rw [hw6]; exact G5.out)
            clear hw6 c4 B5 G5 P5
            go_wp2_with fail
            refine Calls.mono (Hid.out c5) ?_; rintro e w7 ⟨rfl, q7, hw7⟩
            have B7 : Hid (Below w.heap.size w w7) := by show Below _ _ _; rw [hw7]; exact below_drewN B6.out q7
            clear hw7 c5 B6
            go_wp2_with fail
            go_ret
            exact ⟨rfl, B7.out⟩
          · have hEE := HB.out hA
            subst hEE
            have c2' : Hid _ := c2.out wr Br.out bo bc Lb.out
            have hE' : (E2 == 0) = false := beq_eq_false_iff_ne.2 hE
            clear HA HB HC c2 hA
            go_wp2_with fail
            refine Calls.mono (Hid.out c2') ?_; rintro e w4 ⟨yo, yc, rfl, ly, b4⟩
            have T4 : Tab w4 := Tr.below b4 (tab_lt Tr)
            have B4 : Hid (Below w.heap.size w w4) := Br.out.trans (b4.mono hsr)
            have G4 : Hid (Lies w4 go i L) := Lies.below Gr.out b4 (Nat.le_refl _)
            have P4 : Hid (Lies w4 s i L) := Lies.below Pr.out b4 (Nat.le_refl _)
            have al4 : Hid _ := al.out w4 T4
            have hs4 := B4.out.size
            clear b4 ly c2' Xr Gr Pr
            go_wp2_with fail
            refine Calls.mono (Hid.out al4) ?_; rintro e w5 ⟨rfl, b5⟩
            have B5 : Hid (Below w.heap.size w w5) := B4.out.trans (b5.mono hs4)
            have c5 : Hid _ := same_lies i (by omega) s go cap gc L L (fun _ _ => rfl) w5 (Lies.below P4.out b5 (Nat.le_refl _)) (Lies.below G4.out b5 (Nat.le_refl _))
            clear b5 al4 B4 G4 P4
            go_wp2_with fail
            refine Calls.mono (Hid.out c5) ?_; rintro e w7 ⟨rfl, q7, hw7⟩
            have B7 : Hid (Below w.heap.size w w7) := by show Below _ _ _; rw [hw7]; exact below_drewN B5.out q7
            clear hw7 c5 B5
            go_wp2_with fail
            go_ret
            exact ⟨rfl, B7.out⟩
  · have c0 : Hid _ := few_no s s2 n n2 cap cap2 hf w
    have al2 : Hid _ := al.out w hT
    clear hl hl2 hf hT al
    go_enter Tryd.func9, Tryd.ntmps9
    go_wp2_with fail
    refine Calls.mono (Hid.out c0) ?_; rintro e w' ⟨rfl, hw'⟩; subst w'
    go_wp2_with fail
    refine Calls.mono (Hid.out al2) ?_; rintro e w3 ⟨rfl, b3⟩
    have B3 : Hid (Below w.heap.size w w3) := b3
    clear b3 al2
    go_wp2_with fail
    go_ret
    exact ⟨rfl, B3.out⟩

end Go.Proofs.YtcppcfbcgopmoaaDoor.convParts
