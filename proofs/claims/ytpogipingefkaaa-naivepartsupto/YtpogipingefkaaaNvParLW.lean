/- The walk of 'beaglelaw08.NaiveParts': it answers true; nothing that was there is turned. For the statement's proof. -/
import Derived.OpenShut
import Derived.ProofKit
import Derived.Test.YtpogipingefkaaaNvPar
import Derived.Deep.DeepCutAuto
import Derived.Deep.CutRange
import Derived.Deep.CutBlock
namespace Go.Proofs.Ytpogipingefkaaa.naiveParts
open Go.ChangeShapes Go.WideShapes Go.ChangeAt Go.RowKit Cls
set_option linter.unusedVariables false

set_option maxRecDepth 4000 in
set_option maxHeartbeats 4000000 in
theorem walk (ao : Option Addr) (n cap : Nat) (P : Nat → Nat → Bool) (K : Int) (bo : Option Addr) (m dap : Nat) (Q : Nat → Nat → Bool) (J : Int) (s : ByteArray) (w : World) (hp : Lp w ao n P) (hq : Lp w bo m Q) (hs : s.size ≤ maxLen) (hcap : n ≤ cap) (hsz : n + m ≤ 1048576) :
    Calls Try.prog 6 #[.agg #[.slice ao n cap, .int .i64 K], .agg #[.slice bo m dap, .int .i64 J], .string s] w fun e w' => e = .returned (.bool true) ∧ Below w.heap.size w w' := by
  obtain ⟨w1, b1⟩ := lbox w (.slice ao n cap) (.int .i64 K)
  obtain ⟨w2, b2⟩ := lbox w1 (.slice bo m dap) (.int .i64 J)
  have z1 := b1.size
  have E2 : Hid (w2 = (w.alloc (.cells #[.slice ao n cap, .int .i64 K] 24)).alloc (.cells #[.slice bo m dap, .int .i64 J] 24)) := by show _ = _; rw [b2.eq, b1.eq]
  have B2 : Below w.heap.size w w2 := b1.bel.trans (b2.bel.mono b1.bel.size)
  have hl1 : Lf w ao n P := ⟨by omega, hp.lies⟩
  have hl2 : Lf w bo m Q := ⟨by omega, hq.lies⟩
  have q0 := b2.c0
  have q1 := b2.c1
  rw [z1] at q0 q1
  have TT : Hid (Lv2 w w2 w.heap.size (w.heap.size + 1) ao n cap P K bo m dap Q J) := ⟨⟨B2, two_below ⟨b1.c0, b1.c1⟩ b2.bel (by omega), hl1.grow B2⟩, ⟨B2, ⟨q0, q1⟩, hl2.grow B2⟩⟩
  have CA : Hid _ := fun (v : World) => alive08_any v
  unfold maxLen at hs
  have CF : Hid _ := fun (v : World) (go : Option Addr) (gc : Nat) => few08_any (n + m) gc go 0 s (by omega) (by omega) v
  have z2 : w.heap.size + 1 < w2.heap.size := by have := b2.size; omega
  have HA : Hid (∀ v, Below w2.heap.size w2 v → ∃ go gc w1, (Builtin.append_ #[22, 22] 22 #[.slice ao n n, .slice bo m dap]).run Try.prog v = .ok (.slice go (n + m) gc) w1 ∧ Lf w1 go (n + m) (bhd P n Q) ∧ Below v.heap.size v w1 ∧ (1 ≤ n + m → ∀ b o, go = some ⟨b, o, none⟩ → v.heap.size ≤ b ∨ (1 ≤ n ∧ ao = some ⟨b, o, none⟩))) := fun v hv => app4 ao bo n m dap P Q v (TT.out.a.l.grow hv) (TT.out.b.l.grow hv) hsz
  have hU : Hid (∀ v, Below w2.heap.size w2 v → v.cell? ⟨w.heap.size, 0, none⟩ = some (.slice ao n cap) ∧ v.cell? ⟨w.heap.size + 1, 0, none⟩ = some (.slice bo m dap)) := fun v hv => ⟨(two_below TT.out.a.c hv (by omega)).1, (two_below TT.out.b.c hv (by omega)).1⟩
  obtain ⟨R, hR⟩ : ∃ R, bhd P n Q = R := ⟨_, rfl⟩
  rw [hR] at HA
  have hcI : (n : Int) ≤ (cap : Int) := by omega
  have hnI : (0 : Int) ≤ (n : Int) := by omega
  clear b1 b2 z1 B2 hl1 hl2 q0 q1 hp hq
  go_enter Try.func6, Try.ntmps6
  go_wp2_with fail
  rw [← E2.out]
  clear E2
  go_cut [7] (fun v7 wc => ∃ (g : Nat) (go : Option Addr) (gc : Nat), v7 = .pointer (some ⟨g, 0, none⟩) ∧ wc.cell? ⟨g, 0, none⟩ = some (.slice go (n + m) gc) ∧ wc.cell? ⟨g, 1, none⟩ = some (.int .i64 0) ∧ Lf wc go (n + m) R ∧ Below w2.heap.size w2 wc)
  case first =>
    refine region_plain (S := fun v => v.cell? ⟨w.heap.size, 0, none⟩ = some (.slice ao n cap) ∧ v.cell? ⟨w.heap.size + 1, 0, none⟩ = some (.slice bo m dap)) (by kernel_rfl) ?_
    have bd : Below w2.heap.size w2 w2.drew := (Below.refl _ _).drew
    have hH := hU.out w2.drew bd
    refine takeH (i := 0) (v := .pointer (some ⟨w.heap.size, 0, none⟩)) rfl (by kernel_rfl) (by kernel_rfl) (by kernel_rfl) (fun _ _ _ h => h) rfl ?_ hH ?_
    · rintro v0 ⟨y0, y1⟩
      go_simp
    try simp only [Act.put, List.setIfInBounds_toArray, List.set_cons_zero, List.set_cons_succ]
    refine takeH (i := 1) (v := .slice ao n cap) rfl (by kernel_rfl) (by kernel_rfl) (by kernel_rfl) (fun _ _ _ h => h) rfl ?_ hH ?_
    · rintro v0 ⟨y0, y1⟩
      go_simp
    try simp only [Act.put, List.setIfInBounds_toArray, List.set_cons_zero, List.set_cons_succ]
    refine takeH (i := 2) (v := .pointer (some ⟨w.heap.size, 0, none⟩)) rfl (by kernel_rfl) (by kernel_rfl) (by kernel_rfl) (fun _ _ _ h => h) rfl ?_ hH ?_
    · rintro v0 ⟨y0, y1⟩
      go_simp
    try simp only [Act.put, List.setIfInBounds_toArray, List.set_cons_zero, List.set_cons_succ]
    refine takeH (i := 3) (v := .slice ao n cap) rfl (by kernel_rfl) (by kernel_rfl) (by kernel_rfl) (fun _ _ _ h => h) rfl ?_ hH ?_
    · rintro v0 ⟨y0, y1⟩
      go_simp
    try simp only [Act.put, List.setIfInBounds_toArray, List.set_cons_zero, List.set_cons_succ]
    refine takeH (i := 4) (v := .int .i64 (n : Int)) rfl (by kernel_rfl) (by kernel_rfl) (by kernel_rfl) (fun _ _ _ h => h) rfl ?_ hH ?_
    · rintro v0 ⟨y0, y1⟩
      go_simp
    try simp only [Act.put, List.setIfInBounds_toArray, List.set_cons_zero, List.set_cons_succ]
    refine takeH (i := 5) (v := .pointer (some ⟨w.heap.size, 0, none⟩)) rfl (by kernel_rfl) (by kernel_rfl) (by kernel_rfl) (fun _ _ _ h => h) rfl ?_ hH ?_
    · rintro v0 ⟨y0, y1⟩
      go_simp
    try simp only [Act.put, List.setIfInBounds_toArray, List.set_cons_zero, List.set_cons_succ]
    refine takeH (i := 6) (v := .slice ao n cap) rfl (by kernel_rfl) (by kernel_rfl) (by kernel_rfl) (fun _ _ _ h => h) rfl ?_ hH ?_
    · rintro v0 ⟨y0, y1⟩
      go_simp
    try simp only [Act.put, List.setIfInBounds_toArray, List.set_cons_zero, List.set_cons_succ]
    refine takeH (i := 7) (v := .int .i64 (n : Int)) rfl (by kernel_rfl) (by kernel_rfl) (by kernel_rfl) (fun _ _ _ h => h) rfl ?_ hH ?_
    · rintro v0 ⟨y0, y1⟩
      go_simp
    try simp only [Act.put, List.setIfInBounds_toArray, List.set_cons_zero, List.set_cons_succ]
    refine takeH (i := 8) (v := .slice ao n n) rfl (by kernel_rfl) (by kernel_rfl) (by kernel_rfl) (fun _ _ _ h => h) rfl ?_ hH ?_
    · rintro v0 ⟨y0, y1⟩
      go_simp
    try simp only [Act.put, List.setIfInBounds_toArray, List.set_cons_zero, List.set_cons_succ]
    refine takeH (i := 9) (v := .pointer (some ⟨w.heap.size + 1, 0, none⟩)) rfl (by kernel_rfl) (by kernel_rfl) (by kernel_rfl) (fun _ _ _ h => h) rfl ?_ hH ?_
    · rintro v0 ⟨y0, y1⟩
      go_simp
    try simp only [Act.put, List.setIfInBounds_toArray, List.set_cons_zero, List.set_cons_succ]
    refine takeH (i := 10) (v := .slice bo m dap) rfl (by kernel_rfl) (by kernel_rfl) (by kernel_rfl) (fun _ _ _ h => h) rfl ?_ hH ?_
    · rintro v0 ⟨y0, y1⟩
      go_simp
    try simp only [Act.put, List.setIfInBounds_toArray, List.set_cons_zero, List.set_cons_succ]
    rename_i J' K' hJ hK'
    obtain ⟨W0, hW0⟩ : ∃ W0, W0 = w2.drew := ⟨_, rfl⟩
    rw [← hW0]
    have bW0 : Below w2.heap.size w2 W0 := by rw [hW0]; exact bd
    clear hW0 bd hH
    refine stepH2 (i := 11) (j := 13) rfl rfl (by kernel_rfl) rfl rfl (fun K1 hK1 => ?_) (fun K1 hK1 => ?_)
    · obtain ⟨go, gc, w3, hrun, hL3, b3, _⟩ := HA.out W0 bW0
      have b23 : Below w2.heap.size w2 w3 := bW0.trans (b3.mono bW0.size)
      refine wp_append_eq (.tmp 20) (.tmp 22) 22 rfl _ _ _ _ rfl rfl hrun ?_
      refine hK1.out _ _ (hU.out w3 b23) ?_
      clear hK1 K1
      try simp only [Act.put, List.setIfInBounds_toArray, List.set_cons_zero, List.set_cons_succ]
      refine takeH (i := 12) (v := .agg #[.slice go (n + m) gc, .int .i64 0]) rfl (by kernel_rfl) (by kernel_rfl) (by kernel_rfl) (fun _ _ _ h => h) rfl ?_ (hU.out _ b23) ?_
      · rintro v0 ⟨y0, y1⟩
        go_simp
      try simp only [Act.put, List.setIfInBounds_toArray, List.set_cons_zero, List.set_cons_succ]
      refine stepH (i := 13) rfl (by kernel_rfl) rfl (fun K1 hK1 => ?_)
      obtain ⟨w4, x4⟩ := lbox w3 (.slice none 0 0) (.int .i64 0)
      have b24 : Below w2.heap.size w2 w4 := b23.trans (x4.bel.mono b23.size)
      have e4 : Hid _ := x4.eq
      go_simp
      rw [← e4.out]
      refine hK1.out _ _ (hU.out w4 b24) ?_
      clear hK1 K1
      try simp only [Act.put, List.setIfInBounds_toArray, List.set_cons_zero, List.set_cons_succ]
      refine stepH (i := 14) rfl (by kernel_rfl) rfl (fun K1 hK1 => ?_)
      have k0 := x4.c0
      have k1 := x4.c1
      have f0 : w4.frozen? ⟨w3.heap.size, 0, none⟩ = false := by rw [e4.out]; exact lbox_fz _ _ _ _
      have f1 : w4.frozen? ⟨w3.heap.size, 1, none⟩ = false := by rw [e4.out]; exact lbox_fz _ _ _ _
      go_simp
      obtain ⟨r0, r1, r2⟩ := put2_new (u := .slice go (n + m) gc) (v := .int .i64 0) b24 w3.heap.size k0 k1 b23.size
      have r3 : Lf (put2 w4 w3.heap.size (.slice go (n + m) gc) (.int .i64 0)) go (n + m) R := Lf.put (hL3.grow x4.bel) _ _ (fun hn b o e => Nat.ne_of_lt (lf_lt hL3 hn e))
      refine hK1.out _ _ (hU.out (put2 w4 w3.heap.size (.slice go (n + m) gc) (.int .i64 0)) r2) ?_
      clear hK1 K1
      refine wpAnyH_done (by kernel_rfl) ?_ _
      refine hK' _ _ (Met.intro (hJ _ _ ?_))
      repeat apply Exists.intro
      exact ⟨⟨_, go, gc, rfl, r0, r1, r3, r2⟩, rfl⟩
    · obtain ⟨w3, x3⟩ := lbox W0 (.slice none 0 0) (.int .i64 0)
      have b23 : Below w2.heap.size w2 w3 := bW0.trans (x3.bel.mono bW0.size)
      have e3 : Hid _ := x3.eq
      go_simp
      rw [← e3.out]
      refine hK1.out _ _ (hU.out w3 b23) ?_
      clear hK1 K1
      try simp only [Act.put, List.setIfInBounds_toArray, List.set_cons_zero, List.set_cons_succ]
      obtain ⟨go, gc, w4, hrun, hL4, b4, hgo⟩ := HA.out w3 b23
      have b24 : Below w2.heap.size w2 w4 := b23.trans (b4.mono b23.size)
      have s3 : W0.heap.size < w3.heap.size := by have := x3.size; omega
      refine stepH (i := 11) rfl (by kernel_rfl) rfl (fun K1 hK1 => ?_)
      refine wp_append_eq (.tmp 20) (.tmp 22) 22 rfl _ _ _ _ rfl rfl hrun ?_
      refine hK1.out _ _ (hU.out w4 b24) ?_
      clear hK1 K1
      try simp only [Act.put, List.setIfInBounds_toArray, List.set_cons_zero, List.set_cons_succ]
      refine takeH (i := 12) (v := .agg #[.slice go (n + m) gc, .int .i64 0]) rfl (by kernel_rfl) (by kernel_rfl) (by kernel_rfl) (fun _ _ _ h => h) rfl ?_ (hU.out _ b24) ?_
      · rintro v0 ⟨y0, y1⟩
        go_simp
      try simp only [Act.put, List.setIfInBounds_toArray, List.set_cons_zero, List.set_cons_succ]
      refine stepH (i := 14) rfl (by kernel_rfl) rfl (fun K1 hK1 => ?_)
      have k0 := (b4.cell (p := ⟨W0.heap.size, 0, none⟩) s3).trans x3.c0
      have k1 := (b4.cell (p := ⟨W0.heap.size, 1, none⟩) s3).trans x3.c1
      have f0 : w4.frozen? ⟨W0.heap.size, 0, none⟩ = false := (b4.frozen (p := ⟨W0.heap.size, 0, none⟩) s3).trans (by rw [e3.out]; exact lbox_fz _ _ _ _)
      have f1 : w4.frozen? ⟨W0.heap.size, 1, none⟩ = false := (b4.frozen (p := ⟨W0.heap.size, 1, none⟩) s3).trans (by rw [e3.out]; exact lbox_fz _ _ _ _)
      go_simp
      obtain ⟨r0, r1, r2⟩ := put2_new (u := .slice go (n + m) gc) (v := .int .i64 0) b24 W0.heap.size k0 k1 bW0.size
      have r3 : Lf (put2 w4 W0.heap.size (.slice go (n + m) gc) (.int .i64 0)) go (n + m) R := Lf.put hL4 _ _ (fun hn b o e => by
        have hz := bW0.size
        rcases hgo hn b o e with h | ⟨h1, h2⟩
        · omega
        · have := lf_lt TT.out.a.l h1 h2
          omega)
      refine hK1.out _ _ (hU.out (put2 w4 W0.heap.size (.slice go (n + m) gc) (.int .i64 0)) r2) ?_
      clear hK1 K1
      refine wpAnyH_done (by kernel_rfl) ?_ _
      refine hK' _ _ (Met.intro (hJ _ _ ?_))
      repeat apply Exists.intro
      exact ⟨⟨_, go, gc, rfl, r0, r1, r3, r2⟩, rfl⟩
  case rest =>
    obtain ⟨g, go, gc, rfl, k0, k1, hL, hB⟩ := hcut
    have T3 : Hid (Lv2 w wc w.heap.size (w.heap.size + 1) ao n cap P K bo m dap Q J ∧ Lv w wc g go (n + m) gc R 0) := ⟨TT.out.grow hB, ⟨TT.out.a.bel.trans (hB.mono TT.out.a.bel.size), ⟨k0, k1⟩, hL⟩⟩
    have c1 : Hid _ := CF.out wc go gc
    obtain ⟨a0, a1⟩ := T3.out.1.a.c
    obtain ⟨d0, d1⟩ := T3.out.1.b.c
    clear hL hB TT HA hU CF
    by_cases hf : n + m ≤ 100 ∧ s.size ≤ 300
    · rw [decide_eq_true hf] at c1
      obtain ⟨hf1, hf2⟩ := hf
      go_wp2_with fail
      refine Calls.mono (Hid.out c1) ?_; rintro e w3 ⟨rfl, bw3⟩
      have T3' : Hid (Lv2 w w3 w.heap.size (w.heap.size + 1) ao n cap P K bo m dap Q J ∧ Lv w w3 g go (n + m) gc R 0) := ⟨T3.out.1.grow bw3, T3.out.2.grow bw3⟩
      clear bw3 T3 a0 a1 d0 d1 k0 k1
      have T3 : Hid (Lv2 w w3 w.heap.size (w.heap.size + 1) ao n cap P K bo m dap Q J ∧ Lv w w3 g go (n + m) gc R 0) := T3'.out
      clear T3'
      obtain ⟨a0, a1⟩ := T3.out.1.a.c
      obtain ⟨d0, d1⟩ := T3.out.1.b.c
      obtain ⟨k0, k1⟩ := T3.out.2.c
      have c2 : Hid _ := refRight_any R (n + m) gc go 0 w3 T3.out.2.l
      clear c1
      cases hrc : rgt R (n + m) 0 with
      | false =>
        rw [hrc] at c2
        go_wp2_with fail
        refine Calls.mono (Hid.out c2) ?_; rintro e w4 ⟨rfl, bw4⟩
        have T3' : Hid (Lv2 w w4 w.heap.size (w.heap.size + 1) ao n cap P K bo m dap Q J ∧ Lv w w4 g go (n + m) gc R 0) := ⟨T3.out.1.grow bw4, T3.out.2.grow bw4⟩
        clear bw4 T3 a0 a1 d0 d1 k0 k1
        have T3 : Hid (Lv2 w w4 w.heap.size (w.heap.size + 1) ao n cap P K bo m dap Q J ∧ Lv w w4 g go (n + m) gc R 0) := T3'.out
        clear T3'
        obtain ⟨a0, a1⟩ := T3.out.1.a.c
        obtain ⟨d0, d1⟩ := T3.out.1.b.c
        obtain ⟨k0, k1⟩ := T3.out.2.c
        clear c2
        go_wp2_with fail
        refine Calls.mono (CA.out w4) ?_; rintro e wz ⟨rfl, bz⟩
        have BZ : Hid (Below w.heap.size w wz) := (T3.out.1.a.grow bz).bel
        clear bz
        go_wp2_with fail
        go_ret
        exact ⟨rfl, BZ.out⟩
      | true =>
        rw [hrc] at c2
        go_wp2_with fail
        refine Calls.mono (Hid.out c2) ?_; rintro e w4 ⟨rfl, bw4⟩
        have T3' : Hid (Lv2 w w4 w.heap.size (w.heap.size + 1) ao n cap P K bo m dap Q J ∧ Lv w w4 g go (n + m) gc R 0) := ⟨T3.out.1.grow bw4, T3.out.2.grow bw4⟩
        clear bw4 T3 a0 a1 d0 d1 k0 k1
        have T3 : Hid (Lv2 w w4 w.heap.size (w.heap.size + 1) ao n cap P K bo m dap Q J ∧ Lv w w4 g go (n + m) gc R 0) := T3'.out
        clear T3'
        obtain ⟨a0, a1⟩ := T3.out.1.a.c
        obtain ⟨d0, d1⟩ := T3.out.1.b.c
        obtain ⟨k0, k1⟩ := T3.out.2.c
        have c3 : Hid _ := refRight_any P n cap ao K w4 T3.out.1.a.l
        clear c2
        cases hra : rgt P n K with
        | false =>
          rw [hra] at c3
          go_wp2_with fail
          refine Calls.mono (Hid.out c3) ?_; rintro e w5 ⟨rfl, bw5⟩
          have T3' : Hid (Lv2 w w5 w.heap.size (w.heap.size + 1) ao n cap P K bo m dap Q J ∧ Lv w w5 g go (n + m) gc R 0) := ⟨T3.out.1.grow bw5, T3.out.2.grow bw5⟩
          clear bw5 T3 a0 a1 d0 d1 k0 k1
          have T3 : Hid (Lv2 w w5 w.heap.size (w.heap.size + 1) ao n cap P K bo m dap Q J ∧ Lv w w5 g go (n + m) gc R 0) := T3'.out
          clear T3'
          obtain ⟨a0, a1⟩ := T3.out.1.a.c
          obtain ⟨d0, d1⟩ := T3.out.1.b.c
          obtain ⟨k0, k1⟩ := T3.out.2.c
          clear c3
          go_wp2_with fail
          refine Calls.mono (CA.out w5) ?_; rintro e wz ⟨rfl, bz⟩
          have BZ : Hid (Below w.heap.size w wz) := (T3.out.1.a.grow bz).bel
          clear bz
          go_wp2_with fail
          go_ret
          exact ⟨rfl, BZ.out⟩
        | true =>
          rw [hra] at c3
          go_wp2_with fail
          refine Calls.mono (Hid.out c3) ?_; rintro e w5 ⟨rfl, bw5⟩
          have T3' : Hid (Lv2 w w5 w.heap.size (w.heap.size + 1) ao n cap P K bo m dap Q J ∧ Lv w w5 g go (n + m) gc R 0) := ⟨T3.out.1.grow bw5, T3.out.2.grow bw5⟩
          clear bw5 T3 a0 a1 d0 d1 k0 k1
          have T3 : Hid (Lv2 w w5 w.heap.size (w.heap.size + 1) ao n cap P K bo m dap Q J ∧ Lv w w5 g go (n + m) gc R 0) := T3'.out
          clear T3'
          obtain ⟨a0, a1⟩ := T3.out.1.a.c
          obtain ⟨d0, d1⟩ := T3.out.1.b.c
          obtain ⟨k0, k1⟩ := T3.out.2.c
          have c4 : Hid _ := refRight_any Q m dap bo J w5 T3.out.1.b.l
          clear c3
          cases hrb : rgt Q m J with
          | false =>
            rw [hrb] at c4
            go_wp2_with fail
            refine Calls.mono (Hid.out c4) ?_; rintro e w6 ⟨rfl, bw6⟩
            have T3' : Hid (Lv2 w w6 w.heap.size (w.heap.size + 1) ao n cap P K bo m dap Q J ∧ Lv w w6 g go (n + m) gc R 0) := ⟨T3.out.1.grow bw6, T3.out.2.grow bw6⟩
            clear bw6 T3 a0 a1 d0 d1 k0 k1
            have T3 : Hid (Lv2 w w6 w.heap.size (w.heap.size + 1) ao n cap P K bo m dap Q J ∧ Lv w w6 g go (n + m) gc R 0) := T3'.out
            clear T3'
            obtain ⟨a0, a1⟩ := T3.out.1.a.c
            obtain ⟨d0, d1⟩ := T3.out.1.b.c
            obtain ⟨k0, k1⟩ := T3.out.2.c
            clear c4
            go_wp2_with fail
            refine Calls.mono (CA.out w6) ?_; rintro e wz ⟨rfl, bz⟩
            have BZ : Hid (Below w.heap.size w wz) := (T3.out.1.a.grow bz).bel
            clear bz
            go_wp2_with fail
            go_ret
            exact ⟨rfl, BZ.out⟩
          | true =>
            rw [hrb] at c4
            go_wp2_with fail
            refine Calls.mono (Hid.out c4) ?_; rintro e w6 ⟨rfl, bw6⟩
            have T3' : Hid (Lv2 w w6 w.heap.size (w.heap.size + 1) ao n cap P K bo m dap Q J ∧ Lv w w6 g go (n + m) gc R 0) := ⟨T3.out.1.grow bw6, T3.out.2.grow bw6⟩
            clear bw6 T3 a0 a1 d0 d1 k0 k1
            have T3 : Hid (Lv2 w w6 w.heap.size (w.heap.size + 1) ao n cap P K bo m dap Q J ∧ Lv w w6 g go (n + m) gc R 0) := T3'.out
            clear T3'
            obtain ⟨a0, a1⟩ := T3.out.1.a.c
            obtain ⟨d0, d1⟩ := T3.out.1.b.c
            obtain ⟨k0, k1⟩ := T3.out.2.c
            clear c4
            obtain ⟨X, hX⟩ : ∃ X, cts P n K s = X := ⟨_, rfl⟩
            obtain ⟨Y, hY⟩ : ∃ Y, cts Q m J s = Y := ⟨_, rfl⟩
            obtain ⟨Z, hZ⟩ : ∃ Z, cts R (n + m) 0 s = Z := ⟨_, rfl⟩
            obtain ⟨lx, hlx⟩ : ∃ l, X.length = l := ⟨_, rfl⟩
            obtain ⟨ly, hly⟩ : ∃ l, Y.length = l := ⟨_, rfl⟩
            obtain ⟨lz, hlz⟩ : ∃ l, Z.length = l := ⟨_, rfl⟩
            have ex : lx = stn P n K s.size := by rw [← hlx, ← hX, cts_len]
            have ey : ly = stn Q m J s.size := by rw [← hly, ← hY, cts_len]
            have ez : lz = stn R (n + m) 0 s.size := by rw [← hlz, ← hZ, cts_len]
            have C1 : Hid (∀ (v : World), Lf v ao n P → Calls Try.prog 14 #[.agg #[.slice ao n cap, .int .i64 K], .string s] v fun e w' => (∃ bo d, e = .returned (.slice bo lx d) ∧ Is w' bo X) ∧ Below v.heap.size v w') := fun v hv => by
              have h := counts_any P (n) cap ao K s (by omega) v hv
              rw [hX] at h
              exact h.mono (fun e w' ⟨⟨bo, d, he, hi, _⟩, hb⟩ => ⟨⟨bo, d, by rw [he, hlx], hi⟩, hb⟩)
            have C2 : Hid (∀ (v : World), Lf v bo m Q → Calls Try.prog 14 #[.agg #[.slice bo m dap, .int .i64 J], .string s] v fun e w' => (∃ bo d, e = .returned (.slice bo ly d) ∧ Is w' bo Y) ∧ Below v.heap.size v w') := fun v hv => by
              have h := counts_any Q (m) dap bo J s (by omega) v hv
              rw [hY] at h
              exact h.mono (fun e w' ⟨⟨bo, d, he, hi, _⟩, hb⟩ => ⟨⟨bo, d, by rw [he, hly], hi⟩, hb⟩)
            have C3 : Hid (∀ (v : World), Lf v go (n + m) R → Calls Try.prog 14 #[.agg #[.slice go (n + m) gc, .int .i64 0], .string s] v fun e w' => (∃ bo d, e = .returned (.slice bo lz d) ∧ Is w' bo Z) ∧ Below v.heap.size v w') := fun v hv => by
              have h := counts_any R ((n + m)) gc go 0 s (by omega) v hv
              rw [hZ] at h
              exact h.mono (fun e w' ⟨⟨bo, d, he, hi, _⟩, hb⟩ => ⟨⟨bo, d, by rw [he, hlz], hi⟩, hb⟩)
            have LD : Hid (Lf w6.drew ao n P) := T3.out.1.a.l.drewN 1
            have HV : Hid (∀ i, i < lz → i < lx ∧ i + n < ly ∧ ∃ x y z : Nat, X[i]? = some x ∧ Y[i + n]? = some y ∧ Z[i]? = some z ∧ z = x + y ∧ x ≤ 100 ∧ y ≤ 100) := by
              intro i hi
              have h1 := (stn_lt (P := R) (m := n + m) (n := s.size) (K := 0) (i := i)).1 (by rw [← ez]; exact hi)
              have h2 : i < lx := by rw [ex]; exact stn_lt.2 ⟨hra, by omega⟩
              have h3 : i + n < ly := by rw [ey]; exact stn_lt.2 ⟨hrb, by omega⟩
              refine ⟨h2, h3, mis P s i n, mis Q s (i + n) m, mis R s i (n + m), ?_, ?_, ?_, ?_, ?_, ?_⟩
              · rw [← hX, List.getElem?_eq_getElem (by rw [hX, hlx]; exact h2), cts_at]
              · rw [← hY, List.getElem?_eq_getElem (by rw [hY, hly]; exact h3), cts_at]
              · rw [← hZ, List.getElem?_eq_getElem (by rw [hZ, hlz]; exact hi), cts_at]
              · rw [← hR, mis_two]
              · have := mis_le P s i n; omega
              · have := mis_le Q s (i + n) m; omega
            have HZ : Hid ((n + m ≤ s.size → lz + (n + m) = s.size + 1) ∧ (s.size < n + m → lz = 0)) := ⟨fun h => by rw [ez, stn_yes hrc h]; omega, fun h => by rw [ez]; exact stn_no (fun h' => by omega)⟩
            have hxl : lx ≤ 301 := by rw [ex]; have := stn_le P n s.size K; omega
            have hyl : ly ≤ 301 := by rw [ey]; have := stn_le Q m s.size J; omega
            have hzl : lz ≤ 301 := by rw [ez]; have := stn_le R (n + m) s.size 0; omega
            have HXl : Hid (X.length = lx ∧ Y.length = ly ∧ Z.length = lz) := ⟨hlx, hly, hlz⟩
            clear hX hY hZ hlx hly hlz ex ey ez
            go_wp2_with fail
            go_region_held3 (fun w' => w'.cell? ⟨w.heap.size, 0, none⟩ = some (.slice ao n cap) ∧ w'.cell? ⟨w.heap.size, 1, none⟩ = some (.int .i64 K) ∧ w'.cell? ⟨w.heap.size + 1, 0, none⟩ = some (.slice bo m dap) ∧ w'.cell? ⟨w.heap.size + 1, 1, none⟩ = some (.int .i64 J) ∧ w'.cell? ⟨g, 0, none⟩ = some (.slice go (n + m) gc) ∧ w'.cell? ⟨g, 1, none⟩ = some (.int .i64 0)) (go_keep)
              (first
                | (go_at_call 14; (with_reducible refine Calls.mono (C1.out _ LD.out) ?_); rintro e vk ⟨⟨xo, xc, rfl, hk⟩, bb⟩; have XX : Hid (Is vk xo X) := hk; clear hk; have TB : Hid (Lv2 w vk w.heap.size (w.heap.size + 1) ao n cap P K bo m dap Q J ∧ Lv w vk g go (n + m) gc R 0) := ⟨T3.out.1.grow (by first | exact undrew bb | exact bb), T3.out.2.grow (by first | exact undrew bb | exact bb)⟩; clear bb T3 a0 a1 d0 d1 k0 k1 ; have T3 : Hid (Lv2 w vk w.heap.size (w.heap.size + 1) ao n cap P K bo m dap Q J ∧ Lv w vk g go (n + m) gc R 0) := TB.out; clear TB; obtain ⟨a0, a1⟩ := T3.out.1.a.c; obtain ⟨d0, d1⟩ := T3.out.1.b.c; obtain ⟨k0, k1⟩ := T3.out.2.c)
                | (go_at_call 14; (with_reducible refine Calls.mono (C2.out _ T3.out.1.b.l) ?_); rintro e vk ⟨⟨yo, yc, rfl, hk⟩, bb⟩; have YY : Hid (Is vk yo Y) := hk; clear hk; have XXB : Hid (Is vk xo X) := (Is.grow XX.out (by first | exact undrew bb | exact bb)); have TB : Hid (Lv2 w vk w.heap.size (w.heap.size + 1) ao n cap P K bo m dap Q J ∧ Lv w vk g go (n + m) gc R 0) := ⟨T3.out.1.grow (by first | exact undrew bb | exact bb), T3.out.2.grow (by first | exact undrew bb | exact bb)⟩; clear bb T3 a0 a1 d0 d1 k0 k1 XX; have XX : Hid (Is vk xo X) := XXB.out; clear XXB; have T3 : Hid (Lv2 w vk w.heap.size (w.heap.size + 1) ao n cap P K bo m dap Q J ∧ Lv w vk g go (n + m) gc R 0) := TB.out; clear TB; obtain ⟨a0, a1⟩ := T3.out.1.a.c; obtain ⟨d0, d1⟩ := T3.out.1.b.c; obtain ⟨k0, k1⟩ := T3.out.2.c)
                | (go_at_call 14; (with_reducible refine Calls.mono (C3.out _ T3.out.2.l) ?_); rintro e vk ⟨⟨zo, zc, rfl, hk⟩, bb⟩; have ZZ : Hid (Is vk zo Z) := hk; clear hk; have XXB : Hid (Is vk xo X) := (Is.grow XX.out (by first | exact undrew bb | exact bb)); have YYB : Hid (Is vk yo Y) := (Is.grow YY.out (by first | exact undrew bb | exact bb)); have TB : Hid (Lv2 w vk w.heap.size (w.heap.size + 1) ao n cap P K bo m dap Q J ∧ Lv w vk g go (n + m) gc R 0) := ⟨T3.out.1.grow (by first | exact undrew bb | exact bb), T3.out.2.grow (by first | exact undrew bb | exact bb)⟩; clear bb T3 a0 a1 d0 d1 k0 k1 XX YY; have XX : Hid (Is vk xo X) := XXB.out; clear XXB; have YY : Hid (Is vk yo Y) := YYB.out; clear YYB; have T3 : Hid (Lv2 w vk w.heap.size (w.heap.size + 1) ao n cap P K bo m dap Q J ∧ Lv w vk g go (n + m) gc R 0) := TB.out; clear TB; obtain ⟨a0, a1⟩ := T3.out.1.a.c; obtain ⟨d0, d1⟩ := T3.out.1.b.c; obtain ⟨k0, k1⟩ := T3.out.2.c))
            clear C1 C2 C3 LD
            go_wp2_with fail
            go_loopw [56] (fun vi wr => Below vk.heap.size vk wr ∧ ∃ i : Nat, i ≤ lz ∧ vi = .int .i64 i) (fun vi _ => lz - (intOf vi).toNat)
            case atStart => exact ⟨Below.refl _ _, 0, Nat.zero_le _, rfl⟩
            case round =>
              obtain ⟨hbel, i, hi, rfl⟩ := hrel
              have HB : Hid (Below vk.heap.size vk wr) := hbel
              have TR : Hid (Lv2 w wr w.heap.size (w.heap.size + 1) ao n cap P K bo m dap Q J ∧ Lv w wr g go (n + m) gc R 0) := ⟨T3.out.1.grow hbel, T3.out.2.grow hbel⟩
              have IX : Hid (Is wr xo X ∧ Is wr yo Y ∧ Is wr zo Z) := ⟨XX.out.grow hbel, YY.out.grow hbel, ZZ.out.grow hbel⟩
              clear hbel a0 a1 d0 d1 k0 k1
              obtain ⟨a0, a1⟩ := TR.out.1.a.c
              obtain ⟨k0, k1⟩ := TR.out.2.c
              by_cases hiz : i < lz
              · have hizI : (i : Int) < (lz : Int) := by omega
                obtain ⟨h1, h2, x, y, z, ex, ey, ez, hz, hx1, hy1⟩ := HV.out i hiz
                obtain ⟨bx, rfl, _, hcx⟩ := IX.out.1 (by rw [HXl.out.1]; omega)
                obtain ⟨by', rfl, _, hcy⟩ := IX.out.2.1 (by rw [HXl.out.2.1]; omega)
                obtain ⟨bz, rfl, _, hcz⟩ := IX.out.2.2 (by rw [HXl.out.2.2]; omega)
                have cx := hcx i (by rw [HXl.out.1]; exact h1)
                have cy := hcy (i + n) (by rw [HXl.out.2.1]; exact h2)
                have cz := hcz i (by rw [HXl.out.2.2]; exact hiz)
                rw [(List.getElem?_eq_some_iff.1 ex).2] at cx
                rw [(List.getElem?_eq_some_iff.1 ey).2] at cy
                rw [(List.getElem?_eq_some_iff.1 ez).2] at cz
                obtain ⟨p, hp⟩ : ∃ p, i + n = p := ⟨_, rfl⟩
                have hpI : (i : Int) + (n : Int) = (p : Int) := by omega
                rw [hp] at cy h2
                have g1 : ¬ (lx : Int) ≤ (i : Int) := by omega
                have g2 : ¬ (ly : Int) ≤ (p : Int) := by omega
                have hwp : IntKind.i64.wrap (p : Int) = (p : Int) := by rw [IntKind.wrap_i64]; omega
                have hwr : IntKind.i64.wrap ((i : Int) + (n : Int)) = (p : Int) := by rw [hpI]; exact hwp
                have hsI : (x : Int) + (y : Int) = (z : Int) := by omega
                have hwz : IntKind.i64.wrap (z : Int) = (z : Int) := by rw [IntKind.wrap_i64]; omega
                have hws : IntKind.i64.wrap ((x : Int) + (y : Int)) = (z : Int) := by rw [hsI]; exact hwz
                have i1 : (i : Int) < (lx : Int) := by omega
                have i2 : (p : Int) < (ly : Int) := by omega
                clear hcx hcy hcz ex ey ez hp hz
                go_wp2_with fail
                go_quiet (fail)
                have HBq : Hid (Below vk.heap.size vk (wr.drewN nq)) := below_drewN HB.out nq
                clear cx cy cz a0 a1 k0 k1 IX TR HV
                go_wp2_with fail
                go_roundw
                case rel => exact ⟨HBq.out, i + 1, by omega, by go_num⟩
                case measure => simp [intOf]; omega
              · obtain rfl : i = lz := by omega
                have c9 : Hid _ := CA.out wr
                have HZ' := HZ.out
                clear HV XX YY ZZ T3 IX HZ
                generalize hN : n + m = N at *
                by_cases hNs : N ≤ s.size
                · have e := HZ'.1 hNs
                  have hq : (s.size : Int) - (N : Int) + 1 = (i : Int) := by omega
                  have hi0 : 0 < (i : Int) := by omega
                  have hi0' : (0 : Int) ≤ (i : Int) := by omega
                  clear HZ'
                  go_wp2_with fail
                  refine Calls.mono (Hid.out c9) ?_; rintro e wz ⟨rfl, bz⟩
                  have TZ : Hid (Lv w wz g go N gc R 0) := TR.out.2.grow bz
                  clear bz a0 a1 k0 k1
                  obtain ⟨k0, k1⟩ := TZ.out.c
                  go_wp2_with fail
                  go_ret
                  exact ⟨rfl, TZ.out.bel⟩
                · have e := HZ'.2 (by omega)
                  subst e
                  have hq : (s.size : Int) - (N : Int) + 1 ≤ 0 := by omega
                  clear HZ'
                  go_wp2_with fail
                  refine Calls.mono (Hid.out c9) ?_; rintro e wz ⟨rfl, bz⟩
                  have TZ : Hid (Lv w wz g go N gc R 0) := TR.out.2.grow bz
                  clear bz a0 a1 k0 k1
                  obtain ⟨k0, k1⟩ := TZ.out.c
                  go_wp2_with fail
                  go_ret
                  exact ⟨rfl, TZ.out.bel⟩
    · rw [decide_eq_false hf] at c1
      clear hf
      go_wp2_with fail
      refine Calls.mono (Hid.out c1) ?_; rintro e w3 ⟨rfl, bw3⟩
      have T3' : Hid (Lv2 w w3 w.heap.size (w.heap.size + 1) ao n cap P K bo m dap Q J ∧ Lv w w3 g go (n + m) gc R 0) := ⟨T3.out.1.grow bw3, T3.out.2.grow bw3⟩
      clear bw3 T3 a0 a1 d0 d1 k0 k1
      have T3 : Hid (Lv2 w w3 w.heap.size (w.heap.size + 1) ao n cap P K bo m dap Q J ∧ Lv w w3 g go (n + m) gc R 0) := T3'.out
      clear T3'
      obtain ⟨a0, a1⟩ := T3.out.1.a.c
      obtain ⟨d0, d1⟩ := T3.out.1.b.c
      obtain ⟨k0, k1⟩ := T3.out.2.c
      clear c1
      go_wp2_with fail
      refine Calls.mono (CA.out w3) ?_; rintro e wz ⟨rfl, bz⟩
      have BZ : Hid (Below w.heap.size w wz) := (T3.out.1.a.grow bz).bel
      clear bz
      go_wp2_with fail
      go_ret
      exact ⟨rfl, BZ.out⟩

end Go.Proofs.Ytpogipingefkaaa.naiveParts
