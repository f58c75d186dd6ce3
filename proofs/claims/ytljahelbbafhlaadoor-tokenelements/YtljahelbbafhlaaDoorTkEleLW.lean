/- The walk of 'beaglelaw13.TokenElements': it answers true; nothing that was there is turned. For the statement's proof. -/
import Derived.OpenShut
import Derived.ProofKit
import Derived.Test.YtljahelbbafhlaaDoorTkLw
import Derived.Test.YtljahelbbafhlaaDoorTkC
namespace Go.Proofs.YtljahelbbafhlaaDoor.tokenElements
open Go.ChangeShapes Go.WideShapes Go.ChangeAt Go.RowKit Cls
set_option linter.unusedVariables false

/-- The class in its box, the only token's only class. -/
structure Ew (w wk : World) (f g : Nat → Bool) (gb pb po pc : Nat) : Prop where
  x : Tx w wk
  lt : w.heap.size < wk.heap.size
  lg : gb < wk.heap.size
  lp : pb < wk.heap.size
  box : Fam wk w.heap.size 0 4 (wi f)
  a3 : wk.cell? ⟨gb, 3, none⟩ = some (.slice (some ⟨pb, po, none⟩) 1 pc)
  e0 : wk.cell? ⟨pb, po, none⟩ = some (.int .u64 ((wd g 0 : Nat) : Int))
  e1 : wk.cell? ⟨pb, po + 1, none⟩ = some (.int .u64 ((wd g 1 : Nat) : Int))
  e2 : wk.cell? ⟨pb, po + 2, none⟩ = some (.int .u64 ((wd g 2 : Nat) : Int))
  e3 : wk.cell? ⟨pb, po + 3, none⟩ = some (.int .u64 ((wd g 3 : Nat) : Int))

theorem Ew.grow {w wk v : World} {f g : Nat → Bool} {gb pb po pc : Nat} (h : Ew w wk f g gb pb po pc) (b : Below wk.heap.size wk v) : Ew w v f g gb pb po pc :=
  ⟨h.x.grow b, Nat.lt_of_lt_of_le h.lt b.size, Nat.lt_of_lt_of_le h.lg b.size, Nat.lt_of_lt_of_le h.lp b.size, h.box.below b h.lt, (b.cell (p := ⟨gb, 3, none⟩) h.lg).trans h.a3,
    (b.cell (p := ⟨pb, po, none⟩) h.lp).trans h.e0, (b.cell (p := ⟨pb, po + 1, none⟩) h.lp).trans h.e1, (b.cell (p := ⟨pb, po + 2, none⟩) h.lp).trans h.e2, (b.cell (p := ⟨pb, po + 3, none⟩) h.lp).trans h.e3⟩

/-- A box alone. -/
structure Bx (w wk : World) (f : Nat → Bool) : Prop where
  x : Tx w wk
  lt : w.heap.size < wk.heap.size
  box : Fam wk w.heap.size 0 4 (wi f)

theorem Bx.grow {w wk v : World} {f : Nat → Bool} (h : Bx w wk f) (b : Below wk.heap.size wk v) : Bx w v f :=
  ⟨h.x.grow b, Nat.lt_of_lt_of_le h.lt b.size, h.box.below b h.lt⟩

/-- What the only token tells. -/
theorem ew_of {w w1 w2 : World} {f : Nat → Bool} {v : Value} {L : List Tv} {u : Tk} {B : Nat} (hO : OT w2 B 40 v L) (hL : L.map Tv.i = [u].map Tk.i) (hu : sml' u.p [f]) (h : Bx w w1 f) (hb : Below w1.heap.size w1 w2) :
    ∃ g gb pb po pc c, v = .slice (some ⟨gb, 0, none⟩) 1 c ∧ sm g f = true ∧ Ew w w2 f g gb pb po pc := by
  have hl1 : L.length = 1 := by have := congrArg List.length hL; simpa using this
  obtain ⟨x, rfl⟩ := List.length_eq_one_iff.1 hl1
  obtain ⟨g, hg, hs⟩ : ∃ g, u.p = [g] ∧ sm g f = true := by
    obtain ⟨k, a, n, p⟩ := u
    match p, hu with
    | [g], hu => exact ⟨g, rfl, hu.1⟩
  obtain ⟨gb, c, rfl, _, _, hlt, hc, _⟩ := owns_cells hO.own (by simp)
  have hok := hO.ok x (by simp)
  have h3 := hc 3 (by simp)
  obtain ⟨⟨xk, xa, xn, xp⟩, xo, xc⟩ := x
  simp only [List.map_cons, List.map_nil, List.cons.injEq, and_true, Tk.i, Ti.mk.injEq] at hL
  obtain ⟨_, _, _, e⟩ := hL
  rw [hg] at e
  subst e
  unfold Tv.ok at hok
  obtain ⟨pb, po, e2, hp, hC⟩ := hok.lies (by simp)
  simp only at e2
  subst e2
  obtain ⟨c0, c1, c2, c3⟩ := hC.four (t := 0) (by simp)
  have hb2 := h.grow hb
  refine ⟨g, gb, pb, po, xc, c, rfl, hs, hb2.x, hb2.lt, hlt, hp, hb2.box, ?_, ?_, ?_, ?_, ?_⟩
  · rw [h3]; simp [tkc, Tv.four]
  · rw [Nat.zero_mul, Nat.add_zero] at c0; exact c0
  · rw [Nat.zero_mul, Nat.add_zero] at c1; exact c1
  · rw [Nat.zero_mul, Nat.add_zero] at c2; exact c2
  · rw [Nat.zero_mul, Nat.add_zero] at c3; exact c3

theorem prt_el {f : Nat → Bool} {T : List Nat} (h : elt f = some T) : prt ⟨8, 0, 0, [f]⟩ = some (34 :: (T ++ [34])) := by
  unfold prt
  rw [if_neg (by simp), if_pos rfl, if_neg (by simp)]
  show (match (match elt f, elts [] with | some a, some b => some (a ++ b) | _, _ => none) with | some T => some (34 :: (T ++ [34])) | none => none) = _
  rw [h]
  simp [elts]

/-- The two quotes about a text. -/
theorem add_quotes (T : List Nat) (h : T.length ≤ 2400) : (∀ w : World, (Op.stringOp .add (⟨#[34]⟩ : ByteArray) (tbs T)).run Tryd.prog w = .ok (.string (tbs (34 :: T))) w) ∧ ∀ w : World, (Op.stringOp .add (tbs (34 :: T)) (⟨#[34]⟩ : ByteArray)).run Tryd.prog w = .ok (.string (tbs (34 :: (T ++ [34])))) w := by
  refine ⟨fun w => ?_, fun w => ?_⟩
  · exact add_tbs [34] T (by simp; omega) w
  · exact add_tbs (34 :: T) [34] (by simp; omega) w

set_option maxRecDepth 100000 in
set_option maxHeartbeats 4000000 in
theorem walk (f : Nat → Bool) (w : World) (hT : TabB w) (hX : TabX w) :
    Calls Tryd.prog 4 #[.agg #[.int .u64 ((wd (f) 0 : Nat) : Int), .int .u64 ((wd (f) 1 : Nat) : Int), .int .u64 ((wd (f) 2 : Nat) : Int), .int .u64 ((wd (f) 3 : Nat) : Int)]] w fun e w' => e = .returned (.bool true) ∧ Below w.heap.size w w' := by
  obtain ⟨w1, e1⟩ : ∃ w1, w1 = w.alloc (.cells #[.int .u64 ((wd (f) 0 : Nat) : Int), .int .u64 ((wd (f) 1 : Nat) : Int), .int .u64 ((wd (f) 2 : Nat) : Int), .int .u64 ((wd (f) 3 : Nat) : Int)] 35) := ⟨_, rfl⟩
  have hb := bw_new w f hT
  rw [← e1] at hb
  have B1 : Hid (Bx w w1 f) := ⟨⟨hb.bel, hb.tb, by rw [e1]; exact hX.grow (al_below _ _)⟩, hb.lt, hb.fam⟩
  have E1 : Hid _ := e1
  have CA : Hid _ := fun (v : World) (hv : TabB v) (hx : TabX v) => alive_any v hv hx
  have C1 : Hid _ := fun (v : World) (hv : TabB v) => elementS_any f v hv
  have C2 : Hid _ := fun (v : World) => element13S_any f v
  have C3 : Hid (∀ v : World, Calls Tryd.prog 10 #[.string (tbs (34 :: ((elt f).getD [] ++ [34])))] v fun e w' => (∃ u L p c, e = .returned (.tuple #[u, .int .i64 p, .int .i64 c]) ∧ OT w' v.heap.size 40 u L ∧ (∀ T, elt f = some T → T.length ≤ 900 → c = 0 ∧ ∃ t : Tk, L.map Tv.i = [t].map Tk.i ∧ sml' t.p [f])) ∧ Below v.heap.size v w') := fun v => by
    have hle := elt_le f
    refine (lex_any (tbs (34 :: ((elt f).getD [] ++ [34]))) (by rw [tbs_size, List.length_cons, List.length_append]; simp; omega) v).mono fun e w' h => ?_
    obtain ⟨⟨u, L, rfl, ho, hl⟩, hb⟩ := h
    refine ⟨⟨u, L, _, _, rfl, ho, fun T hT h9 => ?_⟩, hb⟩
    rw [hT] at hl ⊢
    simp only [Option.getD_some] at hl ⊢
    obtain ⟨t, h1, h2, h3⟩ := lex_prt (prt_el hT) (by simp; omega)
    have := lex_ok h1
    rw [this.2.2] at hl
    exact ⟨by rw [this.2.1]; rfl, t, hl, h2.2.2⟩
  have hle := elt_le f
  obtain ⟨AD1, AD2⟩ := add_quotes ((elt f).getD []) hle
  have hsz : (tbs ((elt f).getD [])).size = ((elt f).getD []).length := tbs_size _
  unfold Rdx at C1 C2
  obtain ⟨a0, a1, a2, a3⟩ := c4 hb.fam
  clear e1 hb hT hX
  cases hE : elt f with
  | none =>
    have HN : Hid (elt f = none) := hE
    rw [hE] at C1 C2 C3 AD1 AD2 hsz
    simp only [Option.getD_none, Option.isSome_none] at C1 C2 C3 AD1 AD2 hsz
    clear hle hE
    generalize tbs (34 :: ([] ++ [34])) = y at *
    generalize tbs [34] = x at *
    generalize tbs [] = t at *
    go_enter Tryd.func4, Tryd.ntmps4
    go_wp2_with (first | rw [← E1.out])
    refine Calls.mono (C1.out w1 B1.out.x.tab) ?_; rintro e w2 ⟨rfl, b2⟩
    have B2 : Hid (Bx w w2 f) := B1.out.grow b2
    clear b2 C1 a0 a1 a2 a3
    obtain ⟨a0, a1, a2, a3⟩ := c4 B2.out.box
    go_wp2_with fail
    refine Calls.mono (C2.out w2) ?_; rintro e w3 ⟨rfl, b3⟩
    have B3 : Hid (Bx w w3 f) := B2.out.grow b3
    clear b3 C2 B2 a0 a1 a2 a3
    go_wp2_with fail
    refine Calls.mono (C3.out w3) ?_; rintro e w4 ⟨⟨u, L, p, c, rfl, _, _⟩, b4⟩
    have B4 : Hid (Bx w w4 f) := B3.out.grow b4
    clear b4 C3 B3
    go_wp2_with fail
    refine Calls.mono (CA.out w4 B4.out.x.tab B4.out.x.tx) ?_; rintro e w5 ⟨rfl, b5⟩
    have B5 : Hid (Bx w w5 f) := B4.out.grow b5
    clear b5 CA B4
    go_wp2_with fail
    go_ret
    exact ⟨rfl, B5.out.x.bel⟩
  | some T =>
    have HN : Hid (elt f = some T) := hE
    rw [hE] at C1 C2 C3 AD1 AD2 hsz
    simp only [Option.getD_some, Option.isSome_some] at C1 C2 C3 AD1 AD2 hsz
    clear hle hE
    generalize tbs (34 :: (T ++ [34])) = y at *
    generalize tbs (34 :: T) = x at *
    generalize tbs T = t at *
    by_cases h9 : T.length ≤ 900
    · have h9I : ¬ (900 : Int) < (t.size : Int) := by omega
      go_enter Tryd.func4, Tryd.ntmps4
      go_wp2_with (first | rw [← E1.out])
      refine Calls.mono (C1.out w1 B1.out.x.tab) ?_; rintro e w2 ⟨rfl, b2⟩
      have B2 : Hid (Bx w w2 f) := B1.out.grow b2
      clear b2 C1 a0 a1 a2 a3
      obtain ⟨a0, a1, a2, a3⟩ := c4 B2.out.box
      go_wp2_with fail
      refine Calls.mono (C2.out w2) ?_; rintro e w3 ⟨rfl, b3⟩
      have B3 : Hid (Bx w w3 f) := B2.out.grow b3
      clear b3 C2 B2 a0 a1 a2 a3
      go_wp2_with fail
      refine Calls.mono (C3.out w3) ?_; rintro e w4 ⟨⟨u, L, p, c, rfl, hO, hR⟩, b4⟩
      obtain ⟨rfl, t2, hl, hu⟩ := hR T rfl h9
      obtain ⟨g, gb, pb, po, pc, cc, rfl, hs, hew⟩ := ew_of hO hl hu B3.out b4
      have AA : Hid (Ew w w4 f g gb pb po pc) := hew
      clear b4 C3 B3 hO hR hl hu hew
      obtain ⟨_, _, _, _, hbx, r3, s0, s1, s2, s3⟩ := AA.out
      obtain ⟨a0, a1, a2, a3⟩ := c4 hbx
      clear hbx
      go_wp2_with fail
      go_region_held3 (fun w' => w'.cell? ⟨w.heap.size, 0, none⟩ = some (.int .u64 ((wd f 0 : Nat) : Int)) ∧ w'.cell? ⟨w.heap.size, 1, none⟩ = some (.int .u64 ((wd f 1 : Nat) : Int)) ∧ w'.cell? ⟨w.heap.size, 2, none⟩ = some (.int .u64 ((wd f 2 : Nat) : Int)) ∧ w'.cell? ⟨w.heap.size, 3, none⟩ = some (.int .u64 ((wd f 3 : Nat) : Int)) ∧ w'.cell? ⟨gb, 3, none⟩ = some (.slice (some ⟨pb, po, none⟩) 1 pc) ∧ w'.cell? ⟨pb, po, none⟩ = some (.int .u64 ((wd g 0 : Nat) : Int)) ∧ w'.cell? ⟨pb, po + 1, none⟩ = some (.int .u64 ((wd g 1 : Nat) : Int)) ∧ w'.cell? ⟨pb, po + 2, none⟩ = some (.int .u64 ((wd g 2 : Nat) : Int)) ∧ w'.cell? ⟨pb, po + 3, none⟩ = some (.int .u64 ((wd g 3 : Nat) : Int))) (go_keep)
        (first | (go_at_call 9; (with_reducible refine Calls.mono (CA.out _ (by first | exact AA.out.x.tab | exact AA.out.x.tab.grow (below_drewN (Below.refl _ _) _)) (by first | exact AA.out.x.tx | exact AA.out.x.tx.grow (below_drewN (Below.refl _ _) _))) ?_); rintro e vk ⟨rfl, bb⟩; have AB : Hid (Ew w vk f g gb pb po pc) := Ew.grow AA.out (by first | exact undrew bb | exact bb); clear bb AA r3 s0 s1 s2 s3 a0 a1 a2 a3; have AA : Hid (Ew w vk f g gb pb po pc) := AB.out; clear AB; obtain ⟨_, _, _, _, hbx, r3, s0, s1, s2, s3⟩ := AA.out; obtain ⟨a0, a1, a2, a3⟩ := c4 hbx; clear hbx))
      go_wp2_with fail
      go_ret
      exact ⟨rfl, AA.out.x.bel⟩
    · have h9I : (900 : Int) < (t.size : Int) := by omega
      go_enter Tryd.func4, Tryd.ntmps4
      go_wp2_with (first | rw [← E1.out])
      refine Calls.mono (C1.out w1 B1.out.x.tab) ?_; rintro e w2 ⟨rfl, b2⟩
      have B2 : Hid (Bx w w2 f) := B1.out.grow b2
      clear b2 C1 a0 a1 a2 a3
      obtain ⟨a0, a1, a2, a3⟩ := c4 B2.out.box
      go_wp2_with fail
      refine Calls.mono (C2.out w2) ?_; rintro e w3 ⟨rfl, b3⟩
      have B3 : Hid (Bx w w3 f) := B2.out.grow b3
      clear b3 C2 B2 a0 a1 a2 a3
      go_wp2_with fail
      refine Calls.mono (C3.out w3) ?_; rintro e w4 ⟨⟨u, L, p, c, rfl, _, _⟩, b4⟩
      have B4 : Hid (Bx w w4 f) := B3.out.grow b4
      clear b4 C3 B3
      go_wp2_with fail
      refine Calls.mono (CA.out w4 B4.out.x.tab B4.out.x.tx) ?_; rintro e w5 ⟨rfl, b5⟩
      have B5 : Hid (Bx w w5 f) := B4.out.grow b5
      clear b5 CA B4
      go_wp2_with fail
      go_ret
      exact ⟨rfl, B5.out.x.bel⟩

end Go.Proofs.YtljahelbbafhlaaDoor.tokenElements
