/- The walk of 'beaglelaw03.CrtSums': it answers true; nothing that was there is turned. For the statement's proof. -/
import Derived.OpenShut
import Derived.ProofKit
import Derived.Test.YtlkooihjcdgcjaaDoorCrtAlive
namespace Go.Proofs.YtlkooihjcdgcjaaDoor.crtSums
open Go.ChangeShapes Go.WideShapes Go.ChangeAt Go.RowKit Res
set_option linter.unusedVariables false

theorem joined_some {x y z : Int} {e : Ending} (h : Joined x y z e) : ∃ N p, e = .returned (.tuple #[.int .u64 N, .bool p]) ∧ (nm x y z ≤ 18446744073709551615 → N = nm x y z ∧ p = true) := by
  rcases h with ⟨h, rfl⟩ | ⟨h, rfl⟩
  · exact ⟨_, _, rfl, fun _ => ⟨rfl, rfl⟩⟩
  · exact ⟨_, _, rfl, fun h' => by omega⟩
/-- Two rows of three that are filled, place by place. -/
structure Two (w1 wr : World) (g h k : Nat) (S M : Nat → Int) : Prop where
  fs : Fam wr g 0 3 (mix k S (r3 0 0 0))
  ws : Wrt wr g 0 3
  fm : Fam wr h 0 3 (mix k M (r3 0 0 0))
  wm : Wrt wr h 0 3
  wrote : Wrote (fun b _ => b = g ∨ b = h) w1 wr
theorem mix_upd {k n : Nat} {S G : Nat → Int} {x : Int} (hx : x = S k) (t : Nat) (_ : t < n) : upd (mix k S G) k x t = mix (k + 1) S G t := by
  by_cases e : t = k
  · subst e; rw [upd_at, mix_lo (by omega)]; exact hx
  · rw [upd_off e]
    by_cases e2 : t < k
    · rw [mix_lo e2, mix_lo (by omega)]
    · rw [mix_hi (by omega), mix_hi (by omega)]
theorem Two.step {w1 wr : World} {g h k : Nat} {S M : Nat → Int} (t : Two w1 wr g h k S M) (hgh : g ≠ h) (hk : k < 3) {x y : Int} (hx : x = S k) (hy : y = M k) : Two w1 ((wr.setCell ⟨g, k, none⟩ (.int .u64 x)).setCell ⟨h, k, none⟩ (.int .u64 y)) g h (k + 1) S M := by
  refine ⟨?_, (t.ws.setCell _ _).setCell _ _, ?_, (t.wm.setCell _ _).setCell _ _, (t.wrote.setCell (Or.inl rfl) _).setCell (Or.inr rfl) _⟩
  · exact (((t.fs.setCell_at hk (by omega) x).setCell_ne hgh _).congr (mix_upd hx))
  · exact (((t.fm.setCell_ne (Ne.symm hgh) _).setCell_at hk (by omega) y).congr (mix_upd hy))
theorem Two.drew {w1 wr : World} {g h k : Nat} {S M : Nat → Int} (t : Two w1 wr g h k S M) : Two w1 wr.drew g h k S M := ⟨t.fs, t.ws, t.fm, t.wm, t.wrote.drew⟩
theorem md_sum (k a b : Int) : md k (md k a + md k b) = md k (a + b) := md_add k a b
set_option maxHeartbeats 2000000 in
theorem walk (a b : Int) (w : World) (w0 : (Lit.int .u64 a).wf = true) (w1 : (Lit.int .u64 b).wf = true) (hT : Tab w) :
    Calls Tryd.prog 7 #[.int .u64 a, .int .u64 b] w fun e w' => e = .returned (.bool true) ∧ Below w.heap.size w w' := by
  obtain ⟨ha0, ha1⟩ := bounds_u64 w0
  obtain ⟨hb0, hb1⟩ := bounds_u64 w1
  clear w0 w1
  have c1 : Hid _ := parts_any a ha0 w hT
  have c2 : Hid _ := fun (v : World) (hv : Tab v) => parts_any b hb0 v hv
  have al : Hid _ := alive_any
  have h0 := tab_lt hT
  go_enter Tryd.func7, Tryd.ntmps7
  go_wp2_with fail
  refine Calls.mono (Hid.out c1) ?_; rintro e v1 ⟨rfl, b1⟩
  have T1 : Tab v1 := hT.below b1 h0
  have B1 : Hid (Below w.heap.size w v1) := b1
  clear b1 c1
  go_wp2_with fail
  refine Calls.mono (c2.out v1 T1) ?_; rintro e v2 ⟨rfl, b2⟩
  have T2 : Tab v2 := T1.below b2 (tab_lt T1)
  have B2 : Hid (Below w.heap.size w v2) := B1.out.trans (b2.mono B1.out.size)
  clear b2 c2 B1
  obtain ⟨v3, b3⟩ := box3 v2 (md 0 a) (md 1 a) (md 2 a) 23
  obtain ⟨v4, b4⟩ := box3 v3 (md 0 b) (md 1 b) (md 2 b) 23
  obtain ⟨v5, b5⟩ := box3 v4 0 0 0 23
  obtain ⟨v6, b6⟩ := box3 v5 0 0 0 23
  have T6 := b6.tab (b5.tab (b4.tab (b3.tab T2)))
  have E3 : Hid _ := b3.eq
  have E4 : Hid _ := b4.eq
  have E5 : Hid _ := b5.eq
  have E6 : Hid _ := b6.eq
  have s3 : v2.heap.size < v3.heap.size := by have := b3.size; omega
  have s4 : v3.heap.size < v4.heap.size := by have := b4.size; omega
  have s5 : v4.heap.size < v5.heap.size := by have := b5.size; omega
  have s6 : v5.heap.size < v6.heap.size := by have := b6.size; omega
  have C5 : Below v4.heap.size v4 v6 := b5.bel.trans (b6.bel.mono b5.bel.size)
  have C4 : Below v3.heap.size v3 v6 := b4.bel.trans (C5.mono b4.bel.size)
  have C3 : Below v2.heap.size v2 v6 := b3.bel.trans (C4.mono b3.bel.size)
  have B6 : Hid (Below w.heap.size w v6) := B2.out.trans (C3.mono B2.out.size)
  have z2 : w.heap.size ≤ v2.heap.size := B2.out.size
  have FA : Hid (Fam v6 v2.heap.size 0 3 (r3 (md 0 a) (md 1 a) (md 2 a))) := b3.fam.below C4 s3
  have FB : Hid (Fam v6 v3.heap.size 0 3 (r3 (md 0 b) (md 1 b) (md 2 b))) := b4.fam.below C5 s4
  obtain ⟨A, hA⟩ : ∃ A, A = r3 (md 0 a) (md 1 a) (md 2 a) := ⟨_, rfl⟩
  obtain ⟨B, hB⟩ : ∃ B, B = r3 (md 0 b) (md 1 b) (md 2 b) := ⟨_, rfl⟩
  have L0 : Hid (Two v6 v6 v4.heap.size v5.heap.size 0 (fun t => A t + B t) (fun t => A t * B t)) := ⟨by rw [mix_zero]; exact b5.fam.below b6.bel s5, b5.wrt.below b6.bel s5, by rw [mix_zero]; exact b6.fam, b6.wrt, Wrote.refl _ _⟩
  have hbA : ∀ t, 0 ≤ A t ∧ A t ≤ 998244352 := fun t => by
    have := md_nonneg 0 a; have := md_nonneg 1 a; have := md_nonneg 2 a; have := md_le 0 a; have := md_le 1 a; have := md_le 2 a
    rw [hA]; unfold r3; split; omega; split <;> omega
  have hbB : ∀ t, 0 ≤ B t ∧ B t ≤ 998244352 := fun t => by
    have := md_nonneg 0 b; have := md_nonneg 1 b; have := md_nonneg 2 b; have := md_le 0 b; have := md_le 1 b; have := md_le 2 b
    rw [hB]; unfold r3; split; omega; split <;> omega
  have keyS : Hid (a + b ≤ 18446744073709551615 → nm (A 0 + B 0) (A 1 + B 1) (A 2 + B 2) = a + b) := fun h => nm_back (by omega) (by omega) (by rw [hA, hB]; exact md_add 0 a b) (by rw [hA, hB]; exact md_add 1 a b) (by rw [hA, hB]; exact md_add 2 a b)
  have keyM : Hid (0 ≤ a * b → a * b ≤ 18446744073709551615 → nm (A 0 * B 0) (A 1 * B 1) (A 2 * B 2) = a * b) := fun h0 h => nm_back h0 (by omega) (by rw [hA, hB]; exact md_mul 0 a b) (by rw [hA, hB]; exact md_mul 1 a b) (by rw [hA, hB]; exact md_mul 2 a b)
  rw [← hA] at FA
  rw [← hB] at FB
  have H3 : Hid (v2.heap.size + 1 = v3.heap.size) := b3.size.symm
  have H4 : Hid (v3.heap.size + 1 = v4.heap.size) := b4.size.symm
  have H5 : Hid (v4.heap.size + 1 = v5.heap.size) := b5.size.symm
  have hp : Hid (∀ t, 0 ≤ A t * B t ∧ A t * B t ≤ 998244352 * 998244352) := fun t => ⟨Int.mul_nonneg (hbA t).1 (hbB t).1, Int.mul_le_mul (hbA t).2 (hbB t).2 (hbB t).1 (by omega)⟩
  have cs : Hid _ := fun (v : World) (hv : Tab v) => join_any (A 0 + B 0) (A 1 + B 1) (A 2 + B 2) (by have := (hbA 0).1; have := (hbB 0).1; omega) (by have := (hbA 1).1; have := (hbB 1).1; omega) (by have := (hbA 2).1; have := (hbB 2).1; omega) v hv
  have cm : Hid _ := fun (v : World) (hv : Tab v) => join_any (A 0 * B 0) (A 1 * B 1) (A 2 * B 2) (hp.out 0).1 (hp.out 1).1 (hp.out 2).1 v hv
  have hlt2 := tab_lt T2
  clear b3 b4 b5 b6 C3 C4 C5 hA hB T2
  obtain ⟨g2, hg2⟩ : ∃ g, g = v2.heap.size := ⟨_, rfl⟩
  have G2 : Hid (v2.heap.size = g2) := hg2.symm
  rw [← hg2] at s3 H3 FA z2 hlt2
  clear hg2
  generalize v3.heap.size = g3 at *
  generalize v4.heap.size = g4 at *
  generalize v5.heap.size = g5 at *
  go_wp2_with fail
  rw [← E3.out, ← E4.out, ← E5.out, ← E6.out, G2.out, H3.out, H4.out, H5.out]
  clear E3 E4 E5 E6 G2 H3 H4 H5
  go_loopw [18] (fun vk wr => ∃ k : Nat, k ≤ 3 ∧ vk = .int .i64 k ∧ Two v6 wr g4 g5 k (fun t => A t + B t) (fun t => A t * B t)) (fun vk _ => 3 - (intOf vk).toNat)
  case atStart => exact ⟨0, Nat.zero_le _, rfl, L0.out⟩
  case round =>
    obtain ⟨k, hk, rfl, hF⟩ := hrel
    have HF : Hid (Two v6 wr g4 g5 k (fun t => A t + B t) (fun t => A t * B t)) := hF
    have Tr : Tab wr := T6.wrote hF.wrote (fun o e => by omega)
    by_cases hk3 : k < 3
    · have ka : wr.cell? ⟨g2, k, none⟩ = some (.int .u64 (A k)) := (hF.wrote.fam (show Fam v6 g2 0 3 A from FA.out) (fun t _ e => by omega)).zero k hk3
      have kb : wr.cell? ⟨g3, k, none⟩ = some (.int .u64 (B k)) := (hF.wrote.fam (show Fam v6 g3 0 3 B from FB.out) (fun t _ e => by omega)).zero k hk3
      have ks := hF.fs.zero k hk3
      have km := hF.fm.zero k hk3
      have fs := hF.ws.zero k hk3
      have fm := hF.wm.zero k hk3
      have hst : Hid (∀ X Y, X = A k + B k → Y = A k * B k → Two v6 ((wr.setCell ⟨g4, k, none⟩ (.int .u64 X)).setCell ⟨g5, k, none⟩ (.int .u64 Y)) g4 g5 (k + 1) (fun t => A t + B t) (fun t => A t * B t)) := fun X Y hX hY => hF.step (by omega) hk3 hX hY
      obtain ⟨a0, a1⟩ := hbA k
      obtain ⟨b0, b1⟩ := hbB k
      obtain ⟨m0, m1⟩ := hp.out k
      have hk0I : (0 : Int) ≤ (k : Int) := by omega
      have hk3I : (k : Int) < 3 := by omega
      clear hF HF
      generalize A k = X at *
      generalize B k = Y at *
      go_wp2_with fail
      go_region
      go_wp2_with fail
      go_roundw
      case rel => exact ⟨k + 1, by omega, by go_num, (hst.out _ _ rfl rfl).drew⟩
      case measure => simp [intOf]; omega
    · obtain rfl : k = 3 := by omega
      have FS : Fam wr g4 0 3 (fun t => A t + B t) := hF.fs.congr (fun t ht => mix_lo ht)
      have FM : Hid (Fam wr g5 0 3 (fun t => A t * B t)) := hF.fm.congr (fun t ht => mix_lo ht)
      have B7 : Hid (Below w.heap.size w wr) := B6.out.trans (hF.wrote.below (fun b o e => by omega))
      have sr : g5 < wr.heap.size := by rw [hF.wrote.size]; exact s6
      obtain ⟨k0, k1, k2⟩ := FS.three
      have c7 : Hid _ := cs.out wr Tr
      clear hF HF FS
      go_wp2_with fail
      refine Calls.mono (Hid.out c7) ?_; rintro e v8 ⟨hJ, b8⟩
      obtain ⟨X, p, rfl, hX⟩ := joined_some hJ
      have T8 : Tab v8 := Tr.below b8 (tab_lt Tr)
      have B8 : Hid (Below w.heap.size w v8) := B7.out.trans (b8.mono B7.out.size)
      obtain ⟨l0, l1, l2⟩ := Fam.three (Fam.below (show Fam wr g5 0 3 (fun t => A t * B t) from FM.out) b8 sr)
      have c9 : Hid _ := cm.out v8 T8
      have HX : Hid _ := hX
      clear hJ b8 c7 cs cm k0 k1 k2 B7 FM hX
      go_wp2_with fail
      refine Calls.mono (Hid.out c9) ?_; rintro e v9 ⟨hJ, b9⟩
      obtain ⟨Y, r, rfl, hY⟩ := joined_some hJ
      have T9 : Tab v9 := T8.below b9 (tab_lt T8)
      have B9 : Hid (Below w.heap.size w v9) := B8.out.trans (b9.mono B8.out.size)
      have c10 : Hid _ := al.out v9 T9
      have HY : Hid _ := hY
      clear hJ b9 c9 l0 l1 l2 B8 hY hbA hbB
      have fin : ∀ v, Below v9.heap.size v9 v → Below w.heap.size w v := fun v h => B9.out.trans (h.mono B9.out.size)
      have FIN : Hid _ := fin
      clear fin
      by_cases hs : a + b ≤ 18446744073709551615
      · have hsum : a ≤ 18446744073709551615 - b := by omega
        obtain ⟨hX1, hX2⟩ := HX.out (by rw [keyS.out hs]; exact hs)
        rw [keyS.out hs] at hX1
        subst hX1 hX2
        have hself : (a + b == a + b) = true := beq_iff_eq.2 rfl
        by_cases ha : 4294967296 ≤ a
        · go_wp2_with fail
          refine Calls.mono (Hid.out c10) ?_; rintro e w8 ⟨rfl, b8⟩
          have B10 : Hid _ := FIN.out _ b8
          clear b8
          go_wp2_with fail
          go_ret
          exact ⟨rfl, B10.out⟩
        · by_cases hb : 4294967296 ≤ b
          · go_wp2_with fail
            refine Calls.mono (Hid.out c10) ?_; rintro e w8 ⟨rfl, b8⟩
            have B10 : Hid _ := FIN.out _ b8
            clear b8
            go_wp2_with fail
            go_ret
            exact ⟨rfl, B10.out⟩
          · have hm0 : 0 ≤ a * b := Int.mul_nonneg ha0 hb0
            have hm1 : a * b ≤ 4294967295 * 4294967295 := Int.mul_le_mul (by omega) (by omega) hb0 (by omega)
            have hm2 : a * b ≤ 18446744073709551615 := by omega
            obtain ⟨hY1, hY2⟩ := HY.out (by rw [keyM.out hm0 hm2]; exact hm2)
            rw [keyM.out hm0 hm2] at hY1
            subst hY1 hY2
            have hself2 : (a * b == a * b) = true := beq_iff_eq.2 rfl
            go_wp2_with fail
            refine Calls.mono (Hid.out c10) ?_; rintro e w8 ⟨rfl, b8⟩
            have B10 : Hid _ := FIN.out _ b8
            clear b8
            go_wp2_with fail
            go_ret
            exact ⟨rfl, B10.out⟩
      · have hsum : ¬ a ≤ 18446744073709551615 - b := by omega
        by_cases ha : 4294967296 ≤ a
        · go_wp2_with fail
          refine Calls.mono (Hid.out c10) ?_; rintro e w8 ⟨rfl, b8⟩
          have B10 : Hid _ := FIN.out _ b8
          clear b8
          go_wp2_with fail
          go_ret
          exact ⟨rfl, B10.out⟩
        · have hb : 4294967296 ≤ b := by omega
          go_wp2_with fail
          refine Calls.mono (Hid.out c10) ?_; rintro e w8 ⟨rfl, b8⟩
          have B10 : Hid _ := FIN.out _ b8
          clear b8
          go_wp2_with fail
          go_ret
          exact ⟨rfl, B10.out⟩

end Go.Proofs.YtlkooihjcdgcjaaDoor.crtSums
