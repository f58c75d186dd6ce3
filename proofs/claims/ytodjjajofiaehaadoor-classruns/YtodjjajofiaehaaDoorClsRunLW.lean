/- The walk of 'beaglelaw06.ClassRuns': it answers true; nothing that was there is turned. For the statement's proof. -/
import Derived.OpenShut
import Derived.ProofKit
import Derived.Test.YtodjjajofiaehaaDoorClsAlive
import Derived.Deep.RegionHeld3
import Derived.Deep.RegionWith
import Derived.BigQuiet
namespace Go.Proofs.YtodjjajofiaehaaDoor.classRuns
open Go.ChangeShapes Go.WideShapes Go.ChangeAt Go.RowKit Cls
set_option linter.unusedVariables false

/-- A row of pairs that is only read. -/
def Cz (w : World) (B : Nat) (ao : Option Addr) (N : Nat) (P Q : Nat → Nat) : Prop := 1 ≤ N → ∃ g, ao = some ⟨g, 0, none⟩ ∧ g < B ∧ ∀ k, k < N → w.cell? ⟨g, k * 2, none⟩ = some (.int .u8 (P k : Int)) ∧ w.cell? ⟨g, k * 2 + 1, none⟩ = some (.int .u8 (Q k : Int))
theorem Cz.grow {w w' : World} {B : Nat} {ao : Option Addr} {N : Nat} {P Q : Nat → Nat} (h : Cz w B ao N P Q) (hB : B ≤ w.heap.size) (b : Below w.heap.size w w') : Cz w' B ao N P Q := fun hN => by
  obtain ⟨g, e, hg, hc⟩ := h hN
  exact ⟨g, e, hg, fun k hk => ⟨(b.cell (p := ⟨g, k * 2, none⟩) (by show g < _; omega)).trans (hc k hk).1, (b.cell (p := ⟨g, k * 2 + 1, none⟩) (by show g < _; omega)).trans (hc k hk).2⟩⟩
theorem Cz.mono {w : World} {B C : Nat} {ao : Option Addr} {N : Nat} {P Q : Nat → Nat} (h : Cz w B ao N P Q) (hB : B ≤ C) : Cz w C ao N P Q := fun hN => by
  obtain ⟨g, e, hg, hc⟩ := h hN
  exact ⟨g, e, by omega, hc⟩
theorem Cz.set {w : World} {B : Nat} {ao : Option Addr} {N : Nat} {P Q : Nat → Nat} (h : Cz w B ao N P Q) (f : Nat → Bool) : Cz (set4 w B f) B ao N P Q := fun hN => by
  obtain ⟨g, e, hg, hc⟩ := h hN
  have wr := set4_wrote (v := w) (b := B) f
  exact ⟨g, e, hg, fun k hk => ⟨(wr.cell g _ (by omega)).trans (hc k hk).1, (wr.cell g _ (by omega)).trans (hc k hk).2⟩⟩
def p1 (L : List (Nat × Nat)) (k : Nat) : Nat := (L.getD k (0, 0)).1
def p2 (L : List (Nat × Nat)) (k : Nat) : Nat := (L.getD k (0, 0)).2
theorem cz_of {w : World} {B : Nat} {v : Value} {L : List (Nat × Nat)} (h : OwnP w B v L) : ∃ ao c, v = .slice ao L.length c ∧ Cz w w.heap.size ao L.length (p1 L) (p2 L) := by
  obtain ⟨ao, c, e⟩ := ownP_slice h
  refine ⟨ao, c, e, fun hN => ?_⟩
  obtain ⟨g, cap, e2, _, hlt, hc, _⟩ := ownP_mem h hN
  rw [e] at e2
  injection e2 with e3
  refine ⟨g, e3, hlt, fun k hk => ?_⟩
  have := hc k hk
  unfold p1 p2
  rw [Nat.mul_comm k 2, List.getD_eq_getElem?_getD, List.getElem?_eq_getElem hk]
  exact this
/-- What stands while the ranges are put together. -/
structure Rn (w wr : World) (B : Nat) (ao bo : Option Addr) (N : Nat) (P Q : Nat → Nat) (f U : Nat → Bool) : Prop where
  bel : Below w.heap.size w wr
  c : Fam wr w.heap.size 0 4 (wi f)
  d : Fam wr B 0 4 (wi U)
  dw : Wrt wr B 0 4
  l : Cz wr B ao N P Q
  m : Cz wr B bo N P Q
  tab : TabB wr
theorem Rn.grow {w wr w' : World} {B : Nat} {ao bo : Option Addr} {N : Nat} {P Q : Nat → Nat} {f U : Nat → Bool} (h : Rn w wr B ao bo N P Q f U) (b : Below wr.heap.size wr w') : Rn w w' B ao bo N P Q f U :=
  have lt := h.d.lt (by omega)
  ⟨h.bel.trans (b.mono h.bel.size), h.c.below b (h.c.lt (by omega)), h.d.below b lt, h.dw.below b lt, h.l.grow (Nat.le_of_lt lt) b, h.m.grow (Nat.le_of_lt lt) b, h.tab.grow b⟩
theorem Rn.set {w wr : World} {B : Nat} {ao bo : Option Addr} {N : Nat} {P Q : Nat → Nat} {f U : Nat → Bool} (h : Rn w wr B ao bo N P Q f U) (hB : w.heap.size < B) (ht : 0 < w.heap.size) (V : Nat → Bool) : Rn w (set4 wr B V) B ao bo N P Q f V :=
  have wt := set4_wrote (v := wr) (b := B) V
  have bl : Below w.heap.size wr (set4 wr B V) := wt.below (fun b' o e => by omega)
  ⟨h.bel.trans bl, wt.fam h.c (fun _ _ e => by omega), set4_fam h.d V, set4_wrt h.dw V, h.l.set V, h.m.set V, h.tab.below bl ht⟩
theorem Rn.drewN {w wr : World} {B : Nat} {ao bo : Option Addr} {N : Nat} {P Q : Nat → Nat} {f U : Nat → Bool} (h : Rn w wr B ao bo N P Q f U) (n : Nat) : Rn w (wr.drewN n) B ao bo N P Q f U := ⟨below_drewN h.bel n, h.c, h.d, h.dw, h.l, h.m, h.tab⟩
theorem rn_l {w wr : World} {B gl : Nat} {bo : Option Addr} {N k : Nat} {P Q : Nat → Nat} {f U : Nat → Bool} (h : Rn w wr B (some ⟨gl, 0, none⟩) bo N P Q f U) (hk : k < N) : wr.cell? ⟨gl, k * 2, none⟩ = some (.int .u8 (P k : Int)) ∧ wr.cell? ⟨gl, k * 2 + 1, none⟩ = some (.int .u8 (Q k : Int)) := by
  obtain ⟨g, e, _, hc⟩ := h.l (by omega)
  injection e with e
  injection e with e
  subst e
  exact hc k hk
set_option maxHeartbeats 8000000 in
theorem core (f : Nat → Bool) (N : Nat) (P Q : Nat → Nat) (U : Nat → Nat → Bool) (hN : N ≤ 256) (hP : ∀ k, k < N → P k < 256 ∧ Q k < 256) (hU0 : U 0 = fun _ => false) (hU : ∀ k, k < N → U (k + 1) = fun x => U k x || rg (P k) (Q k + 1) x) (hUN : sm (U N) f = true)
    (CL : ∀ v : World, Calls Tryd.prog 26 #[.agg #[.int .u64 ((wd (f) 0 : Nat) : Int), .int .u64 ((wd (f) 1 : Nat) : Int), .int .u64 ((wd (f) 2 : Nat) : Int), .int .u64 ((wd (f) 3 : Nat) : Int)]] v fun e w' => ∃ ao c, e = .returned (.slice ao N c) ∧ Cz w' w'.heap.size ao N P Q ∧ Below v.heap.size v w')
    (CM : ∀ v : World, Calls Tryd.prog 27 #[.agg #[.int .u64 ((wd (f) 0 : Nat) : Int), .int .u64 ((wd (f) 1 : Nat) : Int), .int .u64 ((wd (f) 2 : Nat) : Int), .int .u64 ((wd (f) 3 : Nat) : Int)]] v fun e w' => ∃ ao c, e = .returned (.slice ao N c) ∧ Cz w' w'.heap.size ao N P Q ∧ Below v.heap.size v w')
    (w : World) (hT : TabB w) :
    Calls Tryd.prog 6 #[.agg #[.int .u64 ((wd (f) 0 : Nat) : Int), .int .u64 ((wd (f) 1 : Nat) : Int), .int .u64 ((wd (f) 2 : Nat) : Int), .int .u64 ((wd (f) 3 : Nat) : Int)]] w fun e w' => e = .returned (.bool true) ∧ Below w.heap.size w w' := by
  have HP : Hid _ := hP
  have HU0 : Hid _ := hU0
  have HU : Hid _ := hU
  have HUN : Hid _ := hUN
  have HCL : Hid _ := CL
  have HCM : Hid _ := CM
  have HT : Hid _ := hT
  have hgt : 0 < w.heap.size := tabB_lt hT
  obtain ⟨w1, b1⟩ := box w f
  have E1 : Hid _ := b1.eq
  have F1 : Hid (Below w.heap.size w w1 ∧ Fam w1 w.heap.size 0 4 (wi f) ∧ TabB w1) := ⟨b1.bel, b1.fam, hT.grow b1.bel⟩
  obtain ⟨a0, a1, a2, a3⟩ := c4 b1.fam
  clear hP hU0 hU hUN CL CM hT b1
  go_enter Tryd.func6, Tryd.ntmps6
  go_wp2_with fail
  rw [← E1.out]
  clear E1
  go_region_held3 (fun w' => w'.cell? ⟨w.heap.size, 0, none⟩ = some (.int .u64 ((wd f 0 : Nat) : Int)) ∧ w'.cell? ⟨w.heap.size, 1, none⟩ = some (.int .u64 ((wd f 1 : Nat) : Int)) ∧ w'.cell? ⟨w.heap.size, 2, none⟩ = some (.int .u64 ((wd f 2 : Nat) : Int)) ∧ w'.cell? ⟨w.heap.size, 3, none⟩ = some (.int .u64 ((wd f 3 : Nat) : Int))) (go_keep)
    (first
      | (go_at_call 26; (with_reducible refine Calls.mono (HCL.out _) ?_); rintro e v2 ⟨ao, ca, rfl, hl, bb⟩; have b2 : Below w1.heap.size w1 v2 := (by first | exact undrew bb | exact bb); have L2 : Hid (Cz v2 v2.heap.size ao N P Q) := hl; have F2 : Hid (Below w.heap.size w v2 ∧ Fam v2 w.heap.size 0 4 (wi f) ∧ TabB v2) := ⟨F1.out.1.trans (b2.mono F1.out.1.size), F1.out.2.1.below b2 (Fam.lt F1.out.2.1 (by omega)), F1.out.2.2.grow b2⟩; clear hl bb b2 a0 a1 a2 a3; obtain ⟨a0, a1, a2, a3⟩ := c4 F2.out.2.1)
      | (go_at_call 27; (with_reducible refine Calls.mono (HCM.out _) ?_); rintro e v3 ⟨bo, cb', rfl, hm, bb⟩; have b3 : Below v2.heap.size v2 v3 := (by first | exact undrew bb | exact bb); have M3 : Hid (Cz v3 v3.heap.size bo N P Q) := hm; have L3 : Hid (Cz v3 v3.heap.size ao N P Q) := (Cz.grow L2.out (Nat.le_refl _) b3).mono b3.size; have F3 : Hid (Below w.heap.size w v3 ∧ Fam v3 w.heap.size 0 4 (wi f) ∧ TabB v3) := ⟨F2.out.1.trans (b3.mono F2.out.1.size), F2.out.2.1.below b3 (Fam.lt F2.out.2.1 (by omega)), F2.out.2.2.grow b3⟩; clear hm bb b3 a0 a1 a2 a3; obtain ⟨a0, a1, a2, a3⟩ := c4 F3.out.2.1))
  obtain ⟨w4, x4⟩ := box0 v3
  have E4 : Hid _ := x4.eq
  have R4 : Hid (Rn w w4 v3.heap.size ao bo N P Q f (U 0)) := by
    show Rn _ _ _ _ _ _ _ _ _ _
    rw [HU0.out]
    have F := F3.out
    exact ⟨F.1.trans (x4.bel.mono F.1.size), F.2.1.below x4.bel (Fam.lt F.2.1 (by omega)), x4.fam, x4.wrt, Cz.grow L3.out (Nat.le_refl _) x4.bel, Cz.grow M3.out (Nat.le_refl _) x4.bel, F.2.2.grow x4.bel⟩
  have hlt : w.heap.size < v3.heap.size := Fam.lt F3.out.2.1 (by omega)
  obtain ⟨B, hB⟩ : ∃ B, v3.heap.size = B := ⟨_, rfl⟩
  have HB : Hid _ := hB
  rw [hB] at R4 hlt
  have hNI : (N : Int) ≤ 256 := by omega
  clear x4 hB F1 F2 F3 L2 L3 M3 a0 a1 a2 a3
  go_wp2_with fail
  rw [← E4.out, HB.out]
  clear E4 HB
  go_loopw [18] (fun vk wr => ∃ k : Nat, k ≤ N ∧ vk = .int .i64 k ∧ Rn w wr B ao bo N P Q f (U k)) (fun vk _ => N - (intOf vk).toNat)
  case atStart => exact ⟨0, Nat.zero_le _, rfl, R4.out⟩
  case round =>
    obtain ⟨k, hk, rfl, hR⟩ := hrel
    have RR : Hid (Rn w wr B ao bo N P Q f (U k)) := hR
    clear hR
    by_cases hkN : k < N
    · have hkI : (k : Int) < (N : Int) := by omega
      obtain ⟨gl, rfl, hgl, hcl⟩ := RR.out.l (by omega)
      obtain ⟨gm, rfl, hgm, hcm⟩ := RR.out.m (by omega)
      obtain ⟨p0, p1'⟩ := hcl k hkN
      obtain ⟨m0, m1⟩ := hcm k hkN
      have hB1 := (HP.out k hkN).1
      have hB2 := (HP.out k hkN).2
      have hs : Hid _ := HU.out k hkN
      have CR : Hid _ := fun (v : World) => range_any (P k) (Q k) hB1 hB2 v
      have CO : Hid _ := fun (v : World) => or_any (U k) (rg (P k) (Q k + 1)) v
      clear hcl hcm hB1 hB2 R4
      go_wp2_with fail
      go_quiet (fail)
      obtain ⟨wx, hwx⟩ : ∃ wx, wx = wr.drewN nq := ⟨_, rfl⟩
      have RX : Hid (Rn w wx B (some ⟨gl, 0, none⟩) (some ⟨gm, 0, none⟩) N P Q f (U k)) := by rw [hwx]; exact RR.out.drewN nq
      rw [← hwx]
      clear hwx RR p0 p1' m0 m1
      have RR : Hid (Rn w wx B (some ⟨gl, 0, none⟩) (some ⟨gm, 0, none⟩) N P Q f (U k)) := RX.out
      clear RX
      obtain ⟨p0, p1'⟩ := rn_l RR.out hkN
      obtain ⟨d0, d1, d2, d3⟩ := c4 RR.out.d
      obtain ⟨y0, y1, y2, y3⟩ := f4 RR.out.dw
      go_wp2_with fail
      go_region_with (first | (go_at_call 12; (with_reducible refine Calls.mono (CR.out _) ?_); rintro e vk ⟨rfl, bb⟩; have RB : Hid (Rn w vk B (some ⟨gl, 0, none⟩) (some ⟨gm, 0, none⟩) N P Q f (U k)) := Rn.grow RR.out (by first | exact undrew bb | exact bb); clear bb RR p0 p1' d0 d1 d2 d3 y0 y1 y2 y3; have RR : Hid (Rn w vk B (some ⟨gl, 0, none⟩) (some ⟨gm, 0, none⟩) N P Q f (U k)) := RB.out; clear RB; obtain ⟨p0, p1'⟩ := rn_l RR.out hkN; obtain ⟨d0, d1, d2, d3⟩ := c4 RR.out.d; obtain ⟨y0, y1, y2, y3⟩ := f4 RR.out.dw) | (go_at_call 18; (with_reducible refine Calls.mono (CO.out _) ?_); rintro e vk ⟨rfl, bb⟩; have RB : Hid (Rn w vk B (some ⟨gl, 0, none⟩) (some ⟨gm, 0, none⟩) N P Q f (U k)) := Rn.grow RR.out (by first | exact undrew bb | exact bb); clear bb RR p0 p1' d0 d1 d2 d3 y0 y1 y2 y3; have RR : Hid (Rn w vk B (some ⟨gl, 0, none⟩) (some ⟨gm, 0, none⟩) N P Q f (U k)) := RB.out; clear RB; obtain ⟨p0, p1'⟩ := rn_l RR.out hkN; obtain ⟨d0, d1, d2, d3⟩ := c4 RR.out.d; obtain ⟨y0, y1, y2, y3⟩ := f4 RR.out.dw))
      all_goals
        go_wp2_with fail
        go_roundw
        case rel => exact ⟨k + 1, by omega, by go_num, by rw [hs.out]; exact RR.out.set hlt hgt _⟩
        case measure => simp [intOf]; omega
    · obtain rfl : k = N := by omega
      have c1 : Hid _ := alive_any wr RR.out.tab
      go_wp2_with fail
      refine Calls.mono (Hid.out c1) ?_; rintro e w5 ⟨rfl, b5⟩
      have R5 : Hid (Rn w w5 B ao bo k P Q f (U k)) := Rn.grow RR.out b5
      obtain ⟨a0, a1, a2, a3⟩ := c4 R5.out.c
      obtain ⟨d0, d1, d2, d3⟩ := c4 R5.out.d
      have hq : sm (U k) f = true := HUN.out
      clear b5 c1 RR
      go_wp2_with fail
      go_ret
      exact ⟨rfl, R5.out.bel⟩
theorem walk (f : Nat → Bool) (w : World) (hT : TabB w) :
    Calls Tryd.prog 6 #[.agg #[.int .u64 ((wd (f) 0 : Nat) : Int), .int .u64 ((wd (f) 1 : Nat) : Int), .int .u64 ((wd (f) 2 : Nat) : Int), .int .u64 ((wd (f) 3 : Nat) : Int)]] w fun e w' => e = .returned (.bool true) ∧ Below w.heap.size w w' := by
  have gd : ∀ k, (h : k < (rr f 256).length) → (rr f 256).getD k (0, 0) = (rr f 256)[k] := fun k h => by rw [List.getD_eq_getElem?_getD, List.getElem?_eq_getElem h]; rfl
  refine core f (rr f 256).length (p1 (rr f 256)) (p2 (rr f 256)) (fun k => un ((rr f 256).take k)) (rr_len f 256) (fun k hk => ?_) ?_ (fun k hk => ?_) ?_ (fun v => (runs_any f v).mono ?_) (fun v => (refRuns_any f v).mono ?_) w hT
  · unfold p1 p2
    rw [gd k hk]
    have := rr_lt f 256 _ (List.getElem_mem hk)
    omega
  · funext x; simp [un]
  · show un _ = _
    rw [un_take _ k hk]
    unfold p1 p2
    rw [gd k hk]
  · refine sm_true (fun b hb => ?_)
    show un ((rr f 256).take (rr f 256).length) b = f b
    rw [List.take_length, un_rr, decide_eq_true hb, Bool.true_and]
  · rintro e w' ⟨v, rfl, ho, hb⟩
    obtain ⟨ao, c, rfl, hz⟩ := cz_of ho
    exact ⟨ao, c, rfl, hz, hb⟩
  · rintro e w' ⟨v, rfl, ho, hb⟩
    obtain ⟨ao, c, rfl, hz⟩ := cz_of ho
    exact ⟨ao, c, rfl, hz, hb⟩

end Go.Proofs.YtodjjajofiaehaaDoor.classRuns
