/- Contract of beaglelaw13.alive. (Written by mktk15.py.) -/
import Derived.Test.YtljahelbbafhlaaDoorTkRd8
import Derived.Test.YtljahelbbafhlaaDoorTkWr3
import Derived.Test.YtljahelbbafhlaaDoorTkPr2
import Derived.Deep.RegionWith
set_option linter.unusedVariables false
namespace Go.Proofs.YtljahelbbafhlaaDoor
open Go.RowKit
namespace Cls

theorem liveA : lpl ⟨#[34, 97, 63, 91, 98, 45, 100, 93, 34, 126, 50]⟩ = 11 ∧ lcd ⟨#[34, 97, 63, 91, 98, 45, 100, 93, 34, 126, 50]⟩ = 0 ∧ (lls ⟨#[34, 97, 63, 91, 98, 45, 100, 93, 34, 126, 50]⟩).map (fun t => (t.kind, t.at', t.n, t.p.length, (t.p.map fun f => (wd f 0, wd f 1, wd f 2, wd f 3)).getD 2 (0, 0, 0, 0))) = [(8, 0, 0, 3, (0, 120259084288, 0, 0)), (7, 9, 2, 0, (0, 0, 0, 0))] := by
  refine ⟨by decide +kernel, by decide +kernel, by kernel_rfl⟩

theorem liveB : lpl ⟨#[34, 91, 94, 92, 120, 48, 48, 45, 92, 120, 102, 102, 93, 34]⟩ = 1 ∧ lcd ⟨#[34, 91, 94, 92, 120, 48, 48, 45, 92, 120, 102, 102, 93, 34]⟩ = 132 := by
  refine ⟨?_, ?_⟩ <;> decide +kernel

theorem liveR : wd (rg 98 101) 0 = 0 ∧ wd (rg 98 101) 1 = 120259084288 ∧ wd (rg 98 101) 2 = 0 ∧ wd (rg 98 101) 3 = 0 := by
  refine ⟨?_, ?_, ?_, ?_⟩ <;> decide +kernel

theorem liveE : elt (rg 98 101) = some [91, 98, 45, 100, 93] := by
  decide +kernel

theorem liveN : prI ⟨6, 0, 30, []⟩ = some [62, 51, 48] := by
  rw [prI_num (.inl rfl)]
  rw [if_pos ⟨by decide, by decide, by decide⟩]
  show some (sg8 6 :: dgs 30) = _
  rw [dgs_more (by decide), dgs_one (by decide)]
  decide

theorem liveZ : prI ⟨0, 0, 0, []⟩ = none := prI_out (.inl (by decide))

@[go_sem] theorem live_eq (w : World) : (Op.equalIn 10000 35 (.agg #[.int .u64 0, .int .u64 120259084288, .int .u64 0, .int .u64 0]) (.agg #[.int .u64 0, .int .u64 120259084288, .int .u64 0, .int .u64 0])).run Tryd.prog w = .ok true w := by
  rw [eq_arr4]; rfl

/-- What the walk keeps. -/
structure Aw (w wk : World) (g pb po pc : Nat) : Prop where
  bel : Below w.heap.size w wk
  tb : TabB wk
  tx : TabX wk
  lg : g < wk.heap.size
  lp : pb < wk.heap.size
  a0 : wk.cell? ⟨g, 0, none⟩ = some (.int .i64 8)
  a1 : wk.cell? ⟨g, 3, none⟩ = some (.slice (some ⟨pb, po, none⟩) 3 pc)
  a2 : wk.cell? ⟨g, 4, none⟩ = some (.int .i64 7)
  a3 : wk.cell? ⟨g, 5, none⟩ = some (.int .i64 9)
  a4 : wk.cell? ⟨g, 6, none⟩ = some (.int .i64 2)
  a5 : wk.cell? ⟨pb, po + 8, none⟩ = some (.int .u64 0)
  a6 : wk.cell? ⟨pb, po + 8 + 1, none⟩ = some (.int .u64 120259084288)
  a7 : wk.cell? ⟨pb, po + 8 + 2, none⟩ = some (.int .u64 0)
  a8 : wk.cell? ⟨pb, po + 8 + 3, none⟩ = some (.int .u64 0)

theorem Aw.grow {w wk v : World} {g pb po pc : Nat} (h : Aw w wk g pb po pc) (b : Below wk.heap.size wk v) : Aw w v g pb po pc :=
  ⟨h.bel.trans (b.mono h.bel.size), h.tb.grow b, h.tx.grow b, Nat.lt_of_lt_of_le h.lg b.size, Nat.lt_of_lt_of_le h.lp b.size, (b.cell (p := ⟨g, 0, none⟩) h.lg).trans h.a0, (b.cell (p := ⟨g, 3, none⟩) h.lg).trans h.a1, (b.cell (p := ⟨g, 4, none⟩) h.lg).trans h.a2, (b.cell (p := ⟨g, 5, none⟩) h.lg).trans h.a3, (b.cell (p := ⟨g, 6, none⟩) h.lg).trans h.a4, (b.cell (p := ⟨pb, po + 8, none⟩) h.lp).trans h.a5, (b.cell (p := ⟨pb, po + 8 + 1, none⟩) h.lp).trans h.a6, (b.cell (p := ⟨pb, po + 8 + 2, none⟩) h.lp).trans h.a7, (b.cell (p := ⟨pb, po + 8 + 3, none⟩) h.lp).trans h.a8⟩

theorem two_of {X Y : Type} {l : List X} {f : X → Y} {a b : Y} (h : l.map f = [a, b]) : ∃ x y, l = [x, y] ∧ f x = a ∧ f y = b := by
  match l, h with
  | [x, y], h =>
    simp only [List.map_cons, List.map_nil, List.cons.injEq, and_true] at h
    exact ⟨x, y, rfl, h.1, h.2⟩

/-- After the first call. -/
theorem aw_new {w w1 : World} {v : Value} {L : List Tv} (hO : OT w1 w.heap.size 40 v L) (hL : L.map Tv.i = (lls ⟨#[34, 97, 63, 91, 98, 45, 100, 93, 34, 126, 50]⟩).map Tk.i) (hb : Below w.heap.size w w1) (hT : TabB w) (hX : TabX w) : ∃ g pb po pc c, v = .slice (some ⟨g, 0, none⟩) 2 c ∧ Aw w w1 g pb po pc := by
  obtain ⟨t0, t1, hl, h0, h1⟩ := two_of liveA.2.2
  rw [hl] at hL
  obtain ⟨x0, x1, rfl, e0, e1⟩ := two_of hL
  simp only [Prod.mk.injEq] at h0 h1
  obtain ⟨k0, at0, n0, p0, q0⟩ := h0
  obtain ⟨k1, at1, n1, p1, q1⟩ := h1
  obtain ⟨g, c, rfl, _, _, hg, hc, _⟩ := owns_cells hO.own (by simp)
  have hok := hO.ok x0 (by simp)
  obtain ⟨⟨xk, xa, xn, xp⟩, xo, xc⟩ := x0
  obtain ⟨⟨yk, ya, yn, yp⟩, yo, yc⟩ := x1
  simp only [Tk.i, Ti.mk.injEq] at e0 e1
  obtain ⟨rfl, rfl, rfl, rfl⟩ := e0
  obtain ⟨rfl, rfl, rfl, rfl⟩ := e1
  unfold Tv.ok at hok
  simp only at hok
  obtain ⟨pb, po, rfl, hp, hC⟩ := hok.lies (by omega)
  obtain ⟨c0, c1, c2, c3⟩ := hC.four (t := 2) (by omega)
  have hq : (wd (at' t0.p 2) 0, wd (at' t0.p 2) 1, wd (at' t0.p 2) 2, wd (at' t0.p 2) 3) = (0, 120259084288, 0, 0) := by
    rw [← q0]
    have h2 : 2 < t0.p.length := by omega
    rw [at_get h2]
    simp [List.getD, h2]
  simp only [Prod.mk.injEq] at hq
  rw [hq.1] at c0
  rw [hq.2.1] at c1
  rw [hq.2.2.1] at c2
  rw [hq.2.2.2] at c3
  have r0 := hc 0 (by simp)
  have r3 := hc 3 (by simp)
  have r4 := hc 4 (by simp)
  have r5 := hc 5 (by simp)
  have r6 := hc 6 (by simp)
  refine ⟨g, pb, po, xc, c, rfl, hb, hT.grow hb, hX.grow hb, hg, hp, ?_, ?_, ?_, ?_, ?_, c0, c1, c2, c3⟩
  · rw [r0]; simp [tkc, Tv.four, k0]
  · rw [r3]; simp [tkc, Tv.four, p0]
  · rw [r4]; simp [tkc, Tv.four, k1]
  · rw [r5]; simp [tkc, Tv.four, at1]
  · rw [r6]; simp [tkc, Tv.four, n1]

set_option maxRecDepth 100000 in
set_option maxHeartbeats 4000000 in
theorem alive_any (w : World) (hT : TabB w) (hX : TabX w) : Calls Tryd.prog 9 #[] w fun e w' => e = .returned (.bool true) ∧ Below w.heap.size w w' := by
  have C1 : Hid _ := lex_any ⟨#[34, 97, 63, 91, 98, 45, 100, 93, 34, 126, 50]⟩ (by decide) w
  have C2 : Hid (∀ v : World, Calls Tryd.prog 10 #[.string ⟨#[34, 91, 94, 92, 120, 48, 48, 45, 92, 120, 102, 102, 93, 34]⟩] v fun e w' => (∃ u, e = .returned (.tuple #[u, .int .i64 1, .int .i64 132])) ∧ Below v.heap.size v w') := fun v => (lex_any ⟨#[34, 91, 94, 92, 120, 48, 48, 45, 92, 120, 102, 102, 93, 34]⟩ (by decide) v).mono fun e w' h => by
    obtain ⟨⟨u, L, rfl, _⟩, hb⟩ := h
    exact ⟨⟨u, by rw [liveB.1, liveB.2]; rfl⟩, hb⟩
  have CR : Hid (∀ v : World, Calls Tryd.prog 19 #[.int .u8 98, .int .u8 100] v fun e w' => e = .returned (.agg #[.int .u64 0, .int .u64 120259084288, .int .u64 0, .int .u64 0]) ∧ Below v.heap.size v w') := fun v => (range_any 98 100 (by omega) (by omega) v).mono fun e w' h => by
    obtain ⟨rfl, hb⟩ := h
    refine ⟨?_, hb⟩
    obtain ⟨h0, h1, h2, h3⟩ := liveR
    show Ending.returned (.agg #[.int .u64 ((wd (rg 98 101) 0 : Nat) : Int), .int .u64 ((wd (rg 98 101) 1 : Nat) : Int), .int .u64 ((wd (rg 98 101) 2 : Nat) : Int), .int .u64 ((wd (rg 98 101) 3 : Nat) : Int)]) = _
    rw [h0, h1, h2, h3]
    rfl
  have CE : Hid (∀ v : World, TabB v → Calls Tryd.prog 14 #[.agg #[.int .u64 0, .int .u64 120259084288, .int .u64 0, .int .u64 0]] v fun e w' => e = .returned (.tuple #[.string ⟨#[91, 98, 45, 100, 93]⟩, .bool true]) ∧ Below v.heap.size v w') := fun v hv => by
    have h := elementS_any (rg 98 101) v hv
    obtain ⟨h0, h1, h2, h3⟩ := liveR
    rw [h0, h1, h2, h3, liveE] at h
    exact h
  have CN : Hid (∀ v : World, TabB v → TabX v → Calls Tryd.prog 16 #[.agg #[.int .i64 6, .int .i64 0, .int .i64 30, .slice none 0 0]] v fun e w' => e = .returned (.tuple #[.string ⟨#[62, 51, 48]⟩, .bool true]) ∧ Below v.heap.size v w') := fun v hv hx => by
    have h := print_any ⟨⟨6, 0, 30, []⟩, none, 0⟩ v ⟨by decide, fun h => by simp at h⟩ hv hx
    rw [liveN] at h
    exact h
  have CZ : Hid (∀ v : World, TabB v → TabX v → Calls Tryd.prog 16 #[.agg #[.int .i64 0, .int .i64 0, .int .i64 0, .slice none 0 0]] v fun e w' => e = .returned (.tuple #[.string ⟨#[]⟩, .bool false]) ∧ Below v.heap.size v w') := fun v hv hx => by
    have h := print_any ⟨⟨0, 0, 0, []⟩, none, 0⟩ v ⟨by decide, fun h => by simp at h⟩ hv hx
    rw [liveZ] at h
    exact h
  have HT : Hid _ := hT
  have HX : Hid _ := hX
  clear hT hX
  go_enter Tryd.func9, Tryd.ntmps9
  go_wp2_with fail
  refine Calls.mono C1.out ?_; rintro e w1 ⟨⟨v, L, rfl, hO, hL⟩, b1⟩
  obtain ⟨g, pb, po, pc, c, rfl, ha⟩ := aw_new hO hL b1 HT.out HX.out
  have A1 : Hid (Aw w w1 g pb po pc) := ha
  rw [liveA.1, liveA.2.1]
  clear ha hO hL b1 C1
  go_wp2_with fail
  refine Calls.mono (C2.out w1) ?_; rintro e w2 ⟨⟨u, rfl⟩, b2⟩
  have A2 : Hid (Aw w w2 g pb po pc) := A1.out.grow b2
  clear b2 A1 C2
  go_wp2_with fail
  refine Calls.mono (CR.out w2) ?_; rintro e w3 ⟨rfl, b3⟩
  have A3 : Hid (Aw w w3 g pb po pc) := A2.out.grow b3
  clear b3 A2
  go_wp2_with fail
  refine Calls.mono (CE.out w3 A3.out.tb) ?_; rintro e w4 ⟨rfl, b4⟩
  have A4 : Hid (Aw w w4 g pb po pc) := A3.out.grow b4
  clear b4 A3 CE
  go_wp2_with fail
  refine Calls.mono (CN.out w4 A4.out.tb A4.out.tx) ?_; rintro e w5 ⟨rfl, b5⟩
  have A5 : Hid (Aw w w5 g pb po pc) := A4.out.grow b5
  clear b5 A4 CN
  go_wp2_with fail
  refine Calls.mono (CZ.out w5 A5.out.tb A5.out.tx) ?_; rintro e w6 ⟨rfl, b6⟩
  have AA : Hid (Aw w w6 g pb po pc) := A5.out.grow b6
  clear b6 A5 CZ
  obtain ⟨_, _, _, _, _, a0, a1, a2, a3, a4, a5, a6, a7, a8⟩ := AA.out
  go_wp2_with fail
  dsimp only [List.append]
  go_region_held3 (fun w' => w'.cell? ⟨g, 0, none⟩ = some (.int .i64 8) ∧ w'.cell? ⟨g, 3, none⟩ = some (.slice (some ⟨pb, po, none⟩) 3 pc) ∧ w'.cell? ⟨g, 4, none⟩ = some (.int .i64 7) ∧ w'.cell? ⟨g, 5, none⟩ = some (.int .i64 9) ∧ w'.cell? ⟨g, 6, none⟩ = some (.int .i64 2) ∧ w'.cell? ⟨pb, po + 8, none⟩ = some (.int .u64 0) ∧ w'.cell? ⟨pb, po + 8 + 1, none⟩ = some (.int .u64 120259084288) ∧ w'.cell? ⟨pb, po + 8 + 2, none⟩ = some (.int .u64 0) ∧ w'.cell? ⟨pb, po + 8 + 3, none⟩ = some (.int .u64 0)) (go_keep)
    (first | (go_at_call 19; (with_reducible refine Calls.mono (CR.out _) ?_); rintro e vk ⟨rfl, bb⟩; have AB : Hid (Aw w vk g pb po pc) := Aw.grow AA.out (by first | exact undrew bb | exact bb); clear bb AA a0 a1 a2 a3 a4 a5 a6 a7 a8; have AA : Hid (Aw w vk g pb po pc) := AB.out; clear AB; obtain ⟨_, _, _, _, _, a0, a1, a2, a3, a4, a5, a6, a7, a8⟩ := AA.out))
  go_wp2_with fail
  go_ret
  exact ⟨rfl, AA.out.bel⟩

end Cls
end Go.Proofs.YtljahelbbafhlaaDoor
