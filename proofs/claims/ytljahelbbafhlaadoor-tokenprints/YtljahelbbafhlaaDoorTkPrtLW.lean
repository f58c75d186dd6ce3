/- The walk of 'beaglelaw13.TokenPrints': it answers true; nothing that was there is turned. For the statement's proof. -/
import Derived.OpenShut
import Derived.ProofKit
import Derived.Test.YtljahelbbafhlaaDoorTkLw
import Derived.Test.YtljahelbbafhlaaDoorTkC
import Derived.Test.YtljahelbbafhlaaDoorTkD
import Derived.Test.YtljahelbbafhlaaDoorLfOpen
namespace Go.Proofs.YtljahelbbafhlaaDoor.tokenPrints
open Go.ChangeShapes Go.WideShapes Go.ChangeAt Go.RowKit Cls
set_option linter.unusedVariables false

/-- A token in its box; the tables. -/
structure Pz (w wk : World) (k a m : Int) (ao : Option Addr) (n cap : Nat) (Q : List (Nat → Bool)) : Prop where
  bel : Below w.heap.size w wk
  lt : w.heap.size < wk.heap.size
  c : K4 wk w.heap.size (.int .i64 k) (.int .i64 a) (.int .i64 m) (.slice ao n cap)
  f : ∀ t, wk.frozen? ⟨w.heap.size, t, none⟩ = false
  tb0 : TabB w
  tx0 : TabX w
  lf0 : Lf w ao n (at' Q)

theorem Pz.x {w wk : World} {k a m : Int} {ao : Option Addr} {n cap : Nat} {Q : List (Nat → Bool)} (h : Pz w wk k a m ao n cap Q) : Tx w wk := ⟨h.bel, h.tb0.grow h.bel, h.tx0.grow h.bel⟩

theorem Pz.lf {w wk : World} {k a m : Int} {ao : Option Addr} {n cap : Nat} {Q : List (Nat → Bool)} (h : Pz w wk k a m ao n cap Q) : Lf wk ao n (at' Q) := h.lf0.grow h.bel

theorem Pz.grow {w wk v : World} {k a m : Int} {ao : Option Addr} {n cap : Nat} {Q : List (Nat → Bool)} (h : Pz w wk k a m ao n cap Q) (b : Below wk.heap.size wk v) : Pz w v k a m ao n cap Q :=
  ⟨h.bel.trans (b.mono h.bel.size), Nat.lt_of_lt_of_le h.lt b.size, h.c.keep b, fun t => (b.frozen (p := ⟨w.heap.size, t, none⟩) h.lt).trans (h.f t), h.tb0, h.tx0, h.lf0⟩

theorem Pz.put {w wk : World} {k a m : Int} {ao : Option Addr} {n cap : Nat} {Q : List (Nat → Bool)} (h : Pz w wk k a m ao n cap Q) : Pz w (wk.setCell ⟨w.heap.size, 1, none⟩ (.int .i64 0)) k 0 m ao n cap Q := by
  have hw : Wrote (fun b t => b = w.heap.size ∧ t = 1) wk (wk.setCell ⟨w.heap.size, 1, none⟩ (.int .i64 0)) := (Wrote.refl _ wk).setCell ⟨rfl, rfl⟩ _
  obtain ⟨c0, c1, c2, c3⟩ := h.c
  refine ⟨h.bel.setCell (Nat.le_refl _) _, by rw [hw.size]; exact h.lt, ⟨?_, ?_, ?_, ?_⟩, fun t => by rw [hw.frozen]; exact h.f t, h.tb0, h.tx0, h.lf0⟩
  · rw [hw.cell _ _ (fun e => by omega)]; exact c0
  · first | exact World.cell?_setCell_same _ _ _ c1 | exact World.cell?_setCell_same _ _ c1 | exact World.cell?_setCell_same' _ _ _ (by rw [c1]; rfl)
  · rw [hw.cell _ _ (fun e => by omega)]; exact c2
  · rw [hw.cell _ _ (fun e => by omega)]; exact c3

theorem lf_row {w : World} {ao : Option Addr} {n : Nat} {L : Nat → Nat → Bool} (h : Lf w ao n L) : Lf w ao n (at' ((List.range n).map L)) := by
  refine ⟨h.small, fun hn => ?_⟩
  obtain ⟨b, o, e, hb, hC⟩ := h.lies hn
  refine ⟨b, o, e, hb, fun t ht k hk => ?_⟩
  have hl : t < ((List.range n).map L).length := by simpa using ht
  have : at' ((List.range n).map L) t = L t := by rw [at_get hl]; simp
  rw [this]
  exact hC t ht k hk

/-- A token's text is read as the token. -/
theorem told_prt {k a m : Int} {Q : List (Nat → Bool)} {T : List Nat} (h : prI ⟨k, a, m, Q⟩ = some T) (hT : T.length ≤ 1000) (ao : Option Addr) (cap : Nat) (v : World) :
    Calls Tryd.prog 10 #[.string (tbs T)] v fun e w' => (∃ so sc x, e = .returned (.tuple #[.slice so 1 sc, .int .i64 (((tbs T).size : Nat) : Int), .int .i64 0]) ∧ TR w' so [x] ∧ Alks [x] [⟨⟨k, 0, m, Q⟩, ao, cap⟩]) ∧ Below v.heap.size v w' := by
  have hk : 1 ≤ k ∧ k ≤ 8 ∧ 0 ≤ m := by
    unfold prI at h
    split at h
    · cases h
    · rename_i hn
      simp only at hn
      omega
  have hp : prt ⟨k.toNat, 0, m.toNat, Q⟩ = some T := by
    unfold prI at h
    split at h
    · cases h
    · exact h
  obtain ⟨u, h1, ⟨h2, h3, h4⟩, h5⟩ := lex_prt hp hT
  obtain ⟨g1, g2, g3⟩ := lex_ok h1
  refine (lex_any (tbs T) (by rw [tbs_size]; omega) v).mono fun e w' h => ?_
  obtain ⟨⟨v1, L, rfl, ho, hl⟩, hb⟩ := h
  rw [g1, g2] at *
  rw [g3] at hl
  have hl1 : L.length = 1 := by have := congrArg List.length hl; simpa using this
  obtain ⟨x, rfl⟩ := List.length_eq_one_iff.1 hl1
  obtain ⟨so, sc, rfl, ht⟩ := ho.tr (by simp)
  refine ⟨⟨so, sc, x, rfl, ht, ⟨rfl, fun i hi hi' => ?_⟩⟩, hb⟩
  have hi0 : i = 0 := by simp at hi; omega
  subst hi0
  obtain ⟨xi, xo, xc⟩ := x
  simp only [List.map_cons, List.map_nil, List.cons.injEq, and_true] at hl
  subst hl
  have hle := sml_len h4
  exact ⟨by show k = ((u.kind : Nat) : Int); simp only at h2; omega, by show (0 : Int) = ((u.at' : Nat) : Int); omega, by show m = ((u.n : Nat) : Int); simp only at h3; omega, hle.symm, fun j hj => sml_at h4 j hj⟩

/-- A token in a row of its own. -/
theorem ty_new {w : World} {k m : Int} {ao : Option Addr} {n cap : Nat} {Q : List (Nat → Bool)} (hQ : Q.length = n) (h : Lf w ao n (at' Q)) : TR (w.alloc (.cells #[.int .i64 k, .int .i64 0, .int .i64 m, .slice ao n cap] 42)) (some ⟨w.heap.size, 0, none⟩) [⟨⟨k, 0, m, Q⟩, ao, cap⟩] := by
  obtain ⟨c0, c1, c2, c3⟩ := k4_new w (Value.int .i64 k) (Value.int .i64 0) (Value.int .i64 m) (Value.slice ao n cap) 42
  refine ⟨by simp, fun _ => ⟨_, _, rfl, by rw [al_size]; omega, fun t ht => ?_⟩, fun x hx => ?_⟩
  · have : t = 0 := by simp at ht; omega
    subst this
    simp only [Nat.zero_mul, Nat.add_zero, List.getElem_cons_zero]
    exact ⟨c0, c1, c2, by show _ = some (Value.slice ao Q.length cap); rw [hQ]; exact c3⟩
  · rw [List.mem_singleton] at hx
    subst hx
    show Lf _ ao Q.length _
    rw [hQ]
    exact h.grow (al_below _ _)


set_option maxRecDepth 100000 in
set_option maxHeartbeats 4000000 in
theorem walk (k a m : Int) (ao : Option Addr) (n cap : Nat) (P : Nat → Nat → Bool) (w : World) (hk : (Lit.int .i64 k).wf = true) (ha : (Lit.int .i64 a).wf = true) (hm : (Lit.int .i64 m).wf = true) (hp : Lp w ao n P) (hT : TabB w) (hX : TabX w) :
    Calls Tryd.prog 5 #[.agg #[.int .i64 k, .int .i64 a, .int .i64 m, .slice ao n cap]] w fun e w' => e = .returned (.bool true) ∧ Below w.heap.size w w' := by
  have hn9 := hp.small
  have CA : Hid _ := fun (v : World) (hv : TabB v) (hx : TabX v) => alive_any v hv hx
  obtain ⟨w1, e1⟩ : ∃ w1, w1 = w.alloc (.cells #[.int .i64 k, .int .i64 a, .int .i64 m, .slice ao n cap] 42) := ⟨_, rfl⟩
  have b1 : Below w.heap.size w w1 := by rw [e1]; exact al_below _ _
  have q1 : Kb w w1 w.heap.size := by rw [e1]; exact kb_new _ _ _ _ _ _
  have c1 : K4 w1 w.heap.size (.int .i64 k) (.int .i64 a) (.int .i64 m) (.slice ao n cap) := by rw [e1]; exact k4_new _ _ _ _ _ _
  have X1 : Hid (Tx w w1) := ⟨b1, hT.grow b1, hX.grow b1⟩
  have E1 : Hid _ := e1
  by_cases hn : n ≤ 100
  · have hnI : ¬ (100 : Int) < (n : Int) := by omega
    have hlf := lf_row (hp.lf hn)
    obtain ⟨Q, hQ⟩ : ∃ Q, (List.range n).map P = Q := ⟨_, rfl⟩
    have hQn : Q.length = n := by rw [← hQ]; simp
    rw [hQ] at hlf
    have P1 : Hid (Pz w w1 k a m ao n cap Q) := ⟨b1, q1.hi, c1, q1.f, hT, hX, hlf⟩
    have C1 : Hid (∀ v : World, Lf v ao n (at' Q) → TabB v → TabX v → Calls Tryd.prog 16 #[.agg #[.int .i64 k, .int .i64 a, .int .i64 m, .slice ao n cap]] v fun e w' => Rdx (prI ⟨k, a, m, Q⟩) e ∧ Below v.heap.size v w') := fun v hv hb hx => by
      have h := print_any ⟨⟨k, a, m, Q⟩, ao, cap⟩ v (by show Lf v ao Q.length _; rw [hQn]; exact hv) hb hx
      unfold Tv.val at h
      simp only [hQn] at h
      exact h
    have C2 : Hid (∀ v : World, Lf v ao n (at' Q) → Calls Tryd.prog 17 #[.agg #[.int .i64 k, .int .i64 a, .int .i64 m, .slice ao n cap]] v fun e w' => Rdx (prI ⟨k, a, m, Q⟩) e ∧ Below v.heap.size v w') := fun v hv => by
      have h := print13_any ⟨⟨k, a, m, Q⟩, ao, cap⟩ v (by show Lf v ao Q.length _; rw [hQn]; exact hv)
      unfold Tv.val at h
      simp only [hQn] at h
      exact h
    unfold Rdx at C1 C2
    obtain ⟨a0, a1, a2, a3⟩ := c1
    clear e1 b1 q1 hT hX hp hlf hQ hk ha hm X1
    cases hR : prI ⟨k, a, m, Q⟩ with
    | none =>
      rw [hR] at C1 C2
      simp only [Option.getD_none, Option.isSome_none] at C1 C2
      generalize tbs [] = t at *
      clear hR
      go_enter Tryd.func5, Tryd.ntmps5
      go_wp2_with (first | rw [← E1.out])
      refine Calls.mono (C1.out w1 P1.out.lf P1.out.x.tab P1.out.x.tx) ?_; rintro e w2 ⟨rfl, b2⟩
      have P2 : Hid (Pz w w2 k a m ao n cap Q) := P1.out.grow b2
      clear b2 C1 a0 a1 a2 a3
      obtain ⟨a0, a1, a2, a3⟩ := P2.out.c
      go_wp2_with fail
      refine Calls.mono (C2.out w2 P2.out.lf) ?_; rintro e w3 ⟨rfl, b3⟩
      have P3 : Hid (Pz w w3 k a m ao n cap Q) := P2.out.grow b3
      clear b3 C2 P2 a0 a1 a2 a3
      go_wp2_with fail
      refine Calls.mono (CA.out w3 P3.out.x.tab P3.out.x.tx) ?_; rintro e w5 ⟨rfl, b5⟩
      have P5 : Hid (Pz w w5 k a m ao n cap Q) := P3.out.grow b5
      clear b5 CA P3
      go_wp2_with fail
      go_ret
      exact ⟨rfl, P5.out.x.bel⟩
    | some T =>
      rw [hR] at C1 C2
      simp only [Option.getD_some, Option.isSome_some] at C1 C2
      have hsz : (tbs T).size = T.length := tbs_size T
      by_cases h9 : T.length ≤ 1000
      · have C3 : Hid _ := fun (v : World) => told_prt hR h9 ao cap v
        generalize tbs T = t at *
        have h9I : ¬ (1000 : Int) < (t.size : Int) := by omega
        clear hR
        go_enter Tryd.func5, Tryd.ntmps5
        go_wp2_with (first | rw [← E1.out])
        refine Calls.mono (C1.out w1 P1.out.lf P1.out.x.tab P1.out.x.tx) ?_; rintro e w2 ⟨rfl, b2⟩
        have P2 : Hid (Pz w w2 k a m ao n cap Q) := P1.out.grow b2
        clear b2 C1 a0 a1 a2 a3
        obtain ⟨a0, a1, a2, a3⟩ := P2.out.c
        go_wp2_with fail
        refine Calls.mono (C2.out w2 P2.out.lf) ?_; rintro e w3 ⟨rfl, b3⟩
        have P3 : Hid (Pz w w3 k a m ao n cap Q) := P2.out.grow b3
        clear b3 C2 P2 a0 a1 a2 a3
        obtain ⟨a0, a1, a2, a3⟩ := P3.out.c
        have f1 := P3.out.f 1
        obtain ⟨w4, e4⟩ : ∃ w4, w4 = w3.setCell ⟨w.heap.size, 1, none⟩ (.int .i64 0) := ⟨_, rfl⟩
        have P4 : Hid (Pz w w4 k 0 m ao n cap Q) := by show Pz _ _ _ _ _ _ _ _ _; rw [e4]; exact P3.out.put
        have E4 : Hid _ := e4
        clear e4
        go_wp2_with (first | rw [← E4.out])
        refine Calls.mono (C3.out w4) ?_; rintro e w5 ⟨⟨so, sc, x, rfl, htr, hal⟩, b5⟩
        obtain ⟨hx1, hx2⟩ : True ∧ True := ⟨trivial, trivial⟩
        have P5 : Hid (Pz w w5 k 0 m ao n cap Q) := P4.out.grow b5
        have T5 : Hid (TR w5 so [x]) := htr
        have HAL : Hid (Alks [x] [⟨⟨k, 0, m, Q⟩, ao, cap⟩]) := hal
        clear b5 C3 P4 E4 htr hal a0 a1 a2 a3 f1 P3 hx1 hx2
        obtain ⟨a0, a1, a2, a3⟩ := P5.out.c
        go_wp2_with fail
        have C4 : Hid (∀ v : World, TR v so [x] → Calls Tryd.prog 13 #[.slice so 1 sc] v fun e w' => (∃ ro rc, e = .returned (.slice ro 1 rc) ∧ TR w' ro [x]) ∧ Below v.heap.size v w') := fun v hv => (olds_any 1 so sc [x] v rfl (by decide) hv).mono fun e w' h => by
          obtain ⟨⟨v4, rfl, ho⟩, hb⟩ := h
          obtain ⟨ro, rc, rfl, ht⟩ := ho.tr (by simp)
          exact ⟨⟨ro, rc, rfl, ht⟩, hb⟩
        have C5 : Hid (∀ (v : World) ro rc bo bc, TR v ro [x] → TR v bo [⟨⟨k, 0, m, Q⟩, ao, cap⟩] → Calls Tryd.prog 12 #[.slice ro 1 rc, .slice bo 1 bc] v fun e w' => e = .returned (.bool true) ∧ Below v.heap.size v w') := fun v ro rc bo bc h1 h2 => same13_any 1 ro bo rc bc _ _ v rfl h1 h2 HAL.out
        have C6 : Hid (∀ (v : World), Below w.heap.size w v → TR (v.alloc (.cells #[.int .i64 k, .int .i64 0, .int .i64 m, .slice ao n cap] 42)) (some ⟨v.heap.size, 0, none⟩) [⟨⟨k, 0, m, Q⟩, ao, cap⟩]) := by
          have hl := P5.out.lf0
          exact fun v hv => ty_new hQn (hl.grow hv)
        clear HAL
        go_region_held3 (fun w' => w'.cell? ⟨w.heap.size, 0, none⟩ = some (.int .i64 k) ∧ w'.cell? ⟨w.heap.size, 1, none⟩ = some (.int .i64 0) ∧ w'.cell? ⟨w.heap.size, 2, none⟩ = some (.int .i64 m) ∧ w'.cell? ⟨w.heap.size, 3, none⟩ = some (.slice ao n cap)) (go_keep)
          (first | (go_at_call 9; (with_reducible refine Calls.mono (CA.out _ (by first | exact P5.out.x.tab | exact (P5.out.x.grow (by first | exact Below.refl _ _ | exact al_below _ _ | exact (Below.refl _ _).drew | exact (al_below _ _).drew | exact (Below.refl _ _).drew.trans (al_below _ _) | exact ((Below.refl _ _).drew.trans (al_below _ _)).drew | exact below_drewN (Below.refl _ _) _ | exact (below_drewN (Below.refl _ _) _).trans (al_below _ _))).tab) (by first | exact P5.out.x.tx | exact (P5.out.x.grow (by first | exact Below.refl _ _ | exact al_below _ _ | exact (Below.refl _ _).drew | exact (al_below _ _).drew | exact (Below.refl _ _).drew.trans (al_below _ _) | exact ((Below.refl _ _).drew.trans (al_below _ _)).drew | exact below_drewN (Below.refl _ _) _ | exact (below_drewN (Below.refl _ _) _).trans (al_below _ _))).tx)) ?_); rintro e vk ⟨rfl, bb⟩; have PB : Hid (Pz w vk k 0 m ao n cap Q) := Pz.grow P5.out (by first | exact bb | exact undrew bb); have TB : Hid (TR vk so [x]) := TR.grow T5.out (by first | exact bb | exact undrew bb); clear bb P5 a0 a1 a2 a3 T5; have T5 : Hid (TR vk so [x]) := TB.out; clear TB; have P5 : Hid (Pz w vk k 0 m ao n cap Q) := PB.out; clear PB; obtain ⟨a0, a1, a2, a3⟩ := P5.out.c) | (go_at_call 13; (with_reducible refine Calls.mono (C4.out _ (by first | exact T5.out | exact T5.out.grow (by first | exact Below.refl _ _ | exact al_below _ _ | exact (Below.refl _ _).drew | exact (al_below _ _).drew | exact (Below.refl _ _).drew.trans (al_below _ _) | exact ((Below.refl _ _).drew.trans (al_below _ _)).drew | exact below_drewN (Below.refl _ _) _ | exact (below_drewN (Below.refl _ _) _).trans (al_below _ _)))) ?_); rintro e vk ⟨⟨ro, rc, rfl, ht⟩, bb⟩; (try have TY : Hid (TR vk _ [⟨⟨k, 0, m, Q⟩, ao, cap⟩]) := TR.grow (C6.out _ (by first | exact P5.out.bel | exact P5.out.bel.drew)) (by first | exact bb | exact undrew bb)); have PB : Hid (Pz w vk k 0 m ao n cap Q) := Pz.grow P5.out (by first | exact bb | exact undrew bb | exact Below.trans (by first | exact Below.refl _ _ | exact al_below _ _ | exact (Below.refl _ _).drew | exact (al_below _ _).drew | exact (Below.refl _ _).drew.trans (al_below _ _) | exact ((Below.refl _ _).drew.trans (al_below _ _)).drew | exact below_drewN (Below.refl _ _) _ | exact (below_drewN (Below.refl _ _) _).trans (al_below _ _)) (bb.mono (by first | exact Nat.le_refl _ | (rw [al_size]; omega) | (simp [al_size]; done) | (show _ ≤ (World.heap _).size; simp [World.drew, al_size]))) | exact Below.trans (by first | exact Below.refl _ _ | exact al_below _ _ | exact (Below.refl _ _).drew | exact (al_below _ _).drew | exact (Below.refl _ _).drew.trans (al_below _ _) | exact ((Below.refl _ _).drew.trans (al_below _ _)).drew | exact below_drewN (Below.refl _ _) _ | exact (below_drewN (Below.refl _ _) _).trans (al_below _ _)) ((undrew bb).mono (by first | exact Nat.le_refl _ | (rw [al_size]; omega) | (simp [al_size]; done) | (show _ ≤ (World.heap _).size; simp [World.drew, al_size])))); have T6 : Hid (TR vk ro [x]) := ht; clear bb P5 a0 a1 a2 a3 ht; have P5 : Hid (Pz w vk k 0 m ao n cap Q) := PB.out; clear PB; obtain ⟨a0, a1, a2, a3⟩ := P5.out.c) | (go_at_call 12; (with_reducible refine Calls.mono (C5.out _ _ _ _ _ (by first | exact T6.out | exact T6.out.grow (by first | exact Below.refl _ _ | exact al_below _ _ | exact (Below.refl _ _).drew | exact (al_below _ _).drew | exact (Below.refl _ _).drew.trans (al_below _ _) | exact ((Below.refl _ _).drew.trans (al_below _ _)).drew | exact below_drewN (Below.refl _ _) _ | exact (below_drewN (Below.refl _ _) _).trans (al_below _ _))) (by first | exact TY.out | exact TY.out.grow (by first | exact Below.refl _ _ | exact al_below _ _ | exact (Below.refl _ _).drew | exact (al_below _ _).drew | exact (Below.refl _ _).drew.trans (al_below _ _) | exact ((Below.refl _ _).drew.trans (al_below _ _)).drew | exact below_drewN (Below.refl _ _) _ | exact (below_drewN (Below.refl _ _) _).trans (al_below _ _)) | exact C6.out _ (by first | exact P5.out.bel | exact P5.out.bel.drew) | exact (C6.out _ (by first | exact P5.out.bel | exact P5.out.bel.drew)).grow (by first | exact Below.refl _ _ | exact al_below _ _ | exact (Below.refl _ _).drew | exact (al_below _ _).drew | exact (Below.refl _ _).drew.trans (al_below _ _) | exact ((Below.refl _ _).drew.trans (al_below _ _)).drew | exact below_drewN (Below.refl _ _) _ | exact (below_drewN (Below.refl _ _) _).trans (al_below _ _)))) ?_); rintro e vk ⟨rfl, bb⟩; have PB : Hid (Pz w vk k 0 m ao n cap Q) := Pz.grow P5.out (by first | exact bb | exact undrew bb | exact Below.trans (by first | exact Below.refl _ _ | exact al_below _ _ | exact (Below.refl _ _).drew | exact (al_below _ _).drew | exact (Below.refl _ _).drew.trans (al_below _ _) | exact ((Below.refl _ _).drew.trans (al_below _ _)).drew | exact below_drewN (Below.refl _ _) _ | exact (below_drewN (Below.refl _ _) _).trans (al_below _ _)) (bb.mono (by first | exact Nat.le_refl _ | (rw [al_size]; omega) | (simp [al_size]; done) | (show _ ≤ (World.heap _).size; simp [World.drew, al_size]))) | exact Below.trans (by first | exact Below.refl _ _ | exact al_below _ _ | exact (Below.refl _ _).drew | exact (al_below _ _).drew | exact (Below.refl _ _).drew.trans (al_below _ _) | exact ((Below.refl _ _).drew.trans (al_below _ _)).drew | exact below_drewN (Below.refl _ _) _ | exact (below_drewN (Below.refl _ _) _).trans (al_below _ _)) ((undrew bb).mono (by first | exact Nat.le_refl _ | (rw [al_size]; omega) | (simp [al_size]; done) | (show _ ≤ (World.heap _).size; simp [World.drew, al_size])))); clear bb P5 a0 a1 a2 a3; have P5 : Hid (Pz w vk k 0 m ao n cap Q) := PB.out; clear PB; obtain ⟨a0, a1, a2, a3⟩ := P5.out.c))
        all_goals
          go_wp2_with fail
          go_ret
          exact ⟨rfl, by first | exact P5.out.bel | exact P5.out.bel.drew⟩
      · generalize tbs T = t at *
        have h9I : (1000 : Int) < (t.size : Int) := by omega
        clear hR
        go_enter Tryd.func5, Tryd.ntmps5
        go_wp2_with (first | rw [← E1.out])
        refine Calls.mono (C1.out w1 P1.out.lf P1.out.x.tab P1.out.x.tx) ?_; rintro e w2 ⟨rfl, b2⟩
        have P2 : Hid (Pz w w2 k a m ao n cap Q) := P1.out.grow b2
        clear b2 C1 a0 a1 a2 a3
        obtain ⟨a0, a1, a2, a3⟩ := P2.out.c
        go_wp2_with fail
        refine Calls.mono (C2.out w2 P2.out.lf) ?_; rintro e w3 ⟨rfl, b3⟩
        have P3 : Hid (Pz w w3 k a m ao n cap Q) := P2.out.grow b3
        clear b3 C2 P2 a0 a1 a2 a3
        go_wp2_with fail
        refine Calls.mono (CA.out w3 P3.out.x.tab P3.out.x.tx) ?_; rintro e w5 ⟨rfl, b5⟩
        have P5 : Hid (Pz w w5 k a m ao n cap Q) := P3.out.grow b5
        clear b5 CA P3
        go_wp2_with fail
        go_ret
        exact ⟨rfl, P5.out.x.bel⟩
  · have hnI : (100 : Int) < (n : Int) := by omega
    obtain ⟨a0, a1, a2, a3⟩ := c1
    clear e1 b1 q1 hT hX hp hk ha hm
    go_enter Tryd.func5, Tryd.ntmps5
    go_wp2_with (first | rw [← E1.out])
    refine Calls.mono (CA.out w1 X1.out.tab X1.out.tx) ?_; rintro e w5 ⟨rfl, b5⟩
    have X5 : Hid (Tx w w5) := X1.out.grow b5
    clear b5 CA X1
    go_wp2_with fail
    go_ret
    exact ⟨rfl, X5.out.bel⟩

end Go.Proofs.YtljahelbbafhlaaDoor.tokenPrints
