/- Contract of beagleref13.one. (Written by mktk10.py.) -/
import Derived.Test.YtbnnobeahliffaaGreatDoorTkRf3
import Derived.Test.YtbnnobeahliffaaGreatDoorTkRow
import Derived.Test.YtbnnobeahliffaaGreatDoorTkWro
import Derived.Test.YtbnnobeahliffaaGreatDoorTkNum
set_option linter.unusedVariables false
namespace Go.Proofs.YtbnnobeahliffaaGreatDoor
open Go.RowKit
namespace Cls

/-- Results: a token in a box, a 'Got' in another one. -/
theorem results_one {fn : Func} {p q : Tmp} (h : fn.results = #[.cell p 56, .cell q 80]) (tmps : Array Value) (v : World) (a g : Nat) {x0 x1 x2 x3 v0 v1 v2 v3 v4 v5 v6 v7 v8 : Value} (hp : tmps.getD p undef = .pointer (some ⟨a, 0, none⟩)) (hq : tmps.getD q undef = .pointer (some ⟨g, 0, none⟩)) (hK : K4 v a x0 x1 x2 x3) (hG : G9 v g v0 v1 v2 v3 v4 v5 v6 v7 v8) :
    (results fn tmps).run Tryz.prog v = .ok (.tuple #[.agg #[x0, x1, x2, x3], .agg #[v0, v1, v2, v3, v4, v5, v6, v7, v8]]) v := by
  have hp' : tmps[p]?.getD undef = .pointer (some ⟨a, 0, none⟩) := by simpa using hp
  have hq' : tmps[q]?.getD undef = .pointer (some ⟨g, 0, none⟩) := by simpa using hq
  obtain ⟨c0, c1, c2, c3, c4, c5, c6, c7, c8⟩ := hG
  obtain ⟨d0, d1, d2, d3⟩ := hK
  simp [results, h, hp', hq', asAddr, go_sem, c0, c1, c2, c3, c4, c5, c6, c7, c8, d0, d1, d2, d3]

/-- Two boxes, written. -/
structure OneEnd (w v V : World) (a g : Nat) (x0 x1 x2 x3 y0 y1 y2 y3 y4 y5 y6 y7 y8 : Value) : Prop where
  k : K4 V a x0 x1 x2 x3
  q : G9 V g y0 y1 y2 y3 y4 y5 y6 y7 y8
  bel : Below w.heap.size w V
  blk : ∀ b, b ≠ a → b ≠ g → V.heap[b]? = v.heap[b]?
  size : V.heap.size = v.heap.size

theorem oneA {w v : World} {a g : Nat} (ha : Kb w v a) (hg : Gb w v g) (hne : a ≠ g) (x0 x1 x2 x3 y0 y1 y2 y3 y4 y5 y6 y7 y8 : Value) : OneEnd w v (set9 (set4v v a x0 x1 x2 x3) g y0 y1 y2 y3 y4 y5 y6 y7 y8) a g x0 x1 x2 x3 y0 y1 y2 y3 y4 y5 y6 y7 y8 := by
  have p1 := ha.put x0 x1 x2 x3
  have w1 := set4v_wrote v a x0 x1 x2 x3
  have g1 := hg.wrote w1 (fun t e => hne e.symm) p1.2.bel
  have p2 := g1.put y0 y1 y2 y3 y4 y5 y6 y7 y8
  have w2 := set9_wrote (set4v v a x0 x1 x2 x3) g y0 y1 y2 y3 y4 y5 y6 y7 y8
  exact ⟨p1.1.wrote w2 (fun t e => hne e), p2.1, p2.2.bel, fun b h1 h2 => (w2.block b (fun o e => h2 e)).trans (w1.block b (fun o e => h1 e)), w2.size.trans w1.size⟩

theorem oneB {w v : World} {a g : Nat} (ha : Kb w v a) (hg : Gb w v g) (hne : a ≠ g) (x0 x1 x2 x3 y0 y1 y2 y3 y4 y5 y6 y7 y8 : Value) : OneEnd w v (set4v (set9 v g y0 y1 y2 y3 y4 y5 y6 y7 y8) a x0 x1 x2 x3) a g x0 x1 x2 x3 y0 y1 y2 y3 y4 y5 y6 y7 y8 := by
  have p1 := hg.put y0 y1 y2 y3 y4 y5 y6 y7 y8
  have w1 := set9_wrote v g y0 y1 y2 y3 y4 y5 y6 y7 y8
  have g1 := ha.wrote w1 (fun t e => hne e) p1.2.bel
  have p2 := g1.put x0 x1 x2 x3
  have w2 := set4v_wrote (set9 v g y0 y1 y2 y3 y4 y5 y6 y7 y8) a x0 x1 x2 x3
  exact ⟨p2.1, p1.1.wrote w2 (fun t e => hne e.symm), p2.2.bel, fun b h1 h2 => (w2.block b (fun o e => h1 e)).trans (w1.block b (fun o e => h2 e)), w2.size.trans w1.size⟩

theorem oneA' {w v : World} {a g : Nat} (ha : Kb w v a) (hg : Gb w v g) (hne : a ≠ g) (x0 x1 x2 x3 y0 y1 y2 y3 y4 y5 y6 y7 y8 : Value) : OneEnd w v (((((((((((((v.setCell ⟨a, 0, none⟩ x0).setCell ⟨a, 1, none⟩ x1).setCell ⟨a, 2, none⟩ x2).setCell ⟨a, 3, none⟩ x3).setCell ⟨g, 0, none⟩ y0).setCell ⟨g, 1, none⟩ y1).setCell ⟨g, 2, none⟩ y2).setCell ⟨g, 3, none⟩ y3).setCell ⟨g, 4, none⟩ y4).setCell ⟨g, 5, none⟩ y5).setCell ⟨g, 6, none⟩ y6).setCell ⟨g, 7, none⟩ y7).setCell ⟨g, 8, none⟩ y8) a g x0 x1 x2 x3 y0 y1 y2 y3 y4 y5 y6 y7 y8 := oneA ha hg hne _ _ _ _ _ _ _ _ _ _ _ _ _

theorem oneB' {w v : World} {a g : Nat} (ha : Kb w v a) (hg : Gb w v g) (hne : a ≠ g) (x0 x1 x2 x3 y0 y1 y2 y3 y4 y5 y6 y7 y8 : Value) : OneEnd w v (((((((((((((v.setCell ⟨g, 0, none⟩ y0).setCell ⟨g, 1, none⟩ y1).setCell ⟨g, 2, none⟩ y2).setCell ⟨g, 3, none⟩ y3).setCell ⟨g, 4, none⟩ y4).setCell ⟨g, 5, none⟩ y5).setCell ⟨g, 6, none⟩ y6).setCell ⟨g, 7, none⟩ y7).setCell ⟨g, 8, none⟩ y8).setCell ⟨a, 0, none⟩ x0).setCell ⟨a, 1, none⟩ x1).setCell ⟨a, 2, none⟩ x2).setCell ⟨a, 3, none⟩ x3) a g x0 x1 x2 x3 y0 y1 y2 y3 y4 y5 y6 y7 y8 := oneB ha hg hne _ _ _ _ _ _ _ _ _ _ _ _ _

theorem one_close {fn : Func} {tmps : Array Value} {V : World} {post : Ending → World → Prop} {val : Value} (h : (results fn tmps).run Tryz.prog V = .ok val V ∧ post (.returned val) V) : bodyPost Tryz.prog fn post Exit.ret { tmps := tmps, defers := [] } V := bodyPost_ret h.1 rfl h.2

theorem OneEnd.drew {w v V : World} {a g : Nat} {x0 x1 x2 x3 y0 y1 y2 y3 y4 y5 y6 y7 y8 : Value} (h : OneEnd w v V a g x0 x1 x2 x3 y0 y1 y2 y3 y4 y5 y6 y7 y8) : OneEnd w v V.drew a g x0 x1 x2 x3 y0 y1 y2 y3 y4 y5 y6 y7 y8 :=
  ⟨h.k.drew, h.q.stay (Below.drew (Below.refl _ _)), h.bel.drew, h.blk, h.size⟩

/-- What is told of one token. -/
def Told13 (B : Nat) (w' : World) (r : Rd Tk) (e : Ending) : Prop :=
  ∃ (x : Tv) (b y z u s m : Int) (va : Option Addr) (vl vc : Nat), e = .returned (.tuple #[x.val, gotv b y z u s (.slice va vl vc) m (rpl r : Nat) (rcd r : Nat)]) ∧ (∀ t n, r = .ok (t, n) → x.i = t.i) ∧ x.ok w' ∧ ∀ b o, x.ao = some ⟨b, o, none⟩ → B ≤ b

theorem lf_stay {v V : World} {ao : Option Addr} {n : Nat} {P : Nat → Nat → Bool} (h : Lf v ao n P) (hs : V.heap.size = v.heap.size) (hb : ∀ b o, ao = some ⟨b, o, none⟩ → V.heap[b]? = v.heap[b]?) : Lf V ao n P :=
  ⟨h.small, fun hn => by
    obtain ⟨b, o, e, hlt, hc⟩ := h.lies hn
    refine ⟨b, o, e, by omega, fun t ht k hk => ?_⟩
    rw [World.cell?_of_block (w := v) (hb b o e)]
    exact hc t ht k hk⟩

theorem told13_plain {B : Nat} {w' : World} {r : Rd Tk} {k a n p c b y z u s m : Int} {va : Option Addr} {vl vc : Nat} (hp : p = (rpl r : Nat)) (hc : c = (rcd r : Nat)) (h : ∀ t m, r = .ok (t, m) → (⟨k, a, n, []⟩ : Ti) = t.i) : Told13 B w' r (.returned (.tuple #[.agg #[.int .i64 k, .int .i64 a, .int .i64 n, .slice none 0 0], .agg #[.int .u8 b, .int .u64 y, .int .u64 z, .int .u64 u, .int .u64 s, .slice va vl vc, .int .i64 m, .int .i64 p, .int .i64 c]])) :=
  ⟨⟨⟨k, a, n, []⟩, none, 0⟩, b, y, z, u, s, m, va, vl, vc, by rw [hp, hc]; rfl, h, ⟨by show 0 ≤ _; omega, fun h => by simp at h⟩, fun _ _ e => by cases e⟩

theorem one_plain {w v V : World} {a g : Nat} {r : Rd Tk} {k q n p c b y z u s m : Int} {va : Option Addr} {vl vc : Nat} (h : OneEnd w v V a g (.int .i64 k) (.int .i64 q) (.int .i64 n) (.slice none 0 0) (.int .u8 b) (.int .u64 y) (.int .u64 z) (.int .u64 u) (.int .u64 s) (.slice va vl vc) (.int .i64 m) (.int .i64 p) (.int .i64 c))
    (hp : p = (rpl r : Nat)) (hc : c = (rcd r : Nat)) (hi : ∀ t m, r = .ok (t, m) → (⟨k, q, n, []⟩ : Ti) = t.i) {fn : Func} {tmps : Array Value} {t1 t2 : Tmp} (hr : fn.results = #[.cell t1 56, .cell t2 80]) (h1 : tmps.getD t1 undef = .pointer (some ⟨a, 0, none⟩)) (h2 : tmps.getD t2 undef = .pointer (some ⟨g, 0, none⟩)) :
    (results fn tmps).run Tryz.prog V = .ok (.tuple #[.agg #[.int .i64 k, .int .i64 q, .int .i64 n, .slice none 0 0], .agg #[.int .u8 b, .int .u64 y, .int .u64 z, .int .u64 u, .int .u64 s, .slice va vl vc, .int .i64 m, .int .i64 p, .int .i64 c]]) V ∧ (Told13 w.heap.size V r (.returned (.tuple #[.agg #[.int .i64 k, .int .i64 q, .int .i64 n, .slice none 0 0], .agg #[.int .u8 b, .int .u64 y, .int .u64 z, .int .u64 u, .int .u64 s, .slice va vl vc, .int .i64 m, .int .i64 p, .int .i64 c]])) ∧ Below w.heap.size w V) :=
  ⟨results_one hr tmps V a g h1 h2 h.k h.q, told13_plain hp hc hi, h.bel⟩

theorem one_row {w v V : World} {a g B : Nat} {r : Rd Tk} {k q p c b y z u s m : Int} {L : List (Nat → Bool)} {ao : Option Addr} {cap : Nat} (h : OneEnd w v V a g (.int .i64 k) (.int .i64 q) (.int .i64 0) (.slice ao L.length cap) (.int .u8 b) (.int .u64 y) (.int .u64 z) (.int .u64 u) (.int .u64 s) (.slice ao L.length cap) (.int .i64 m) (.int .i64 p) (.int .i64 c))
    (hl : Lf v ao L.length (at' L)) (hn : ∀ b o, ao = some ⟨b, o, none⟩ → B ≤ b) (hB : w.heap.size ≤ B) (hBa : a < B) (hBg : g < B)
    (hp : p = (rpl r : Nat)) (hc : c = (rcd r : Nat)) (hi : ∀ t m, r = .ok (t, m) → (⟨k, q, 0, L⟩ : Ti) = t.i) {fn : Func} {tmps : Array Value} {t1 t2 : Tmp} (hr : fn.results = #[.cell t1 56, .cell t2 80]) (h1 : tmps.getD t1 undef = .pointer (some ⟨a, 0, none⟩)) (h2 : tmps.getD t2 undef = .pointer (some ⟨g, 0, none⟩)) :
    (results fn tmps).run Tryz.prog V = .ok (.tuple #[.agg #[.int .i64 k, .int .i64 q, .int .i64 0, .slice ao L.length cap], .agg #[.int .u8 b, .int .u64 y, .int .u64 z, .int .u64 u, .int .u64 s, .slice ao L.length cap, .int .i64 m, .int .i64 p, .int .i64 c]]) V ∧ (Told13 w.heap.size V r (.returned (.tuple #[.agg #[.int .i64 k, .int .i64 q, .int .i64 0, .slice ao L.length cap], .agg #[.int .u8 b, .int .u64 y, .int .u64 z, .int .u64 u, .int .u64 s, .slice ao L.length cap, .int .i64 m, .int .i64 p, .int .i64 c]])) ∧ Below w.heap.size w V) :=
  ⟨results_one hr tmps V a g h1 h2 h.k h.q, ⟨⟨⟨k, q, 0, L⟩, ao, cap⟩, b, y, z, u, s, m, _, _, _, by rw [hp, hc]; rfl, hi, lf_stay hl h.size (fun b o e => by have := hn b o e; exact h.blk b (by omega) (by omega)), fun b o e => by have := hn b o e; show w.heap.size ≤ b; omega⟩, h.bel⟩

set_option maxRecDepth 100000 in
set_option maxHeartbeats 4000000 in
theorem one13_any (s : ByteArray) (q : Nat) (hs : s.size ≤ 1000000) (hq : q < s.size) (w : World) :
    Calls Tryz.prog 39 #[.string s, .int .i64 (q : Int)] w fun e w' => Told13 w.heap.size w' (tok1 s q) e ∧ Below w.heap.size w w' := by
  obtain ⟨w1, e1⟩ : ∃ w1, w1 = w.alloc (.cells #[.int .i64 0, .int .i64 0, .int .i64 0, .slice none 0 0] 56) := ⟨_, rfl⟩
  obtain ⟨w2, e2⟩ : ∃ w2, w2 = w1.alloc (.cells #[.int .u8 0, .int .u64 0, .int .u64 0, .int .u64 0, .int .u64 0, .slice none 0 0, .int .i64 0, .int .i64 0, .int .i64 0] 80) := ⟨_, rfl⟩
  have s1 : w1.heap.size = w.heap.size + 1 := by rw [e1, al_size]
  have b1 : Below w.heap.size w w1 := by rw [e1]; exact al_below _ _
  have b2 : Below w1.heap.size w1 w2 := by rw [e2]; exact al_below _ _
  have k1 : Kb w w1 w.heap.size := by rw [e1]; exact kb_new _ _ _ _ _ _
  have KA : Hid (Kb w w2 w.heap.size) := k1.grow b2
  have k2 : Gb w w2 w1.heap.size := by rw [e2]; exact gb_more b1 _ _ _ _ _ _ _ _ _ _
  have E1 : Hid _ := e1
  have E2 : Hid _ := e2
  obtain ⟨g, hg⟩ : ∃ g, g = w.heap.size + 1 := ⟨_, rfl⟩
  have hg1 : w1.heap.size = g := by omega
  rw [hg1] at k2
  have KG : Hid (Gb w w2 g) := k2
  have HG : Hid (w1.heap.size = g) := hg1
  have hne : w.heap.size ≠ g := by omega
  clear e1 e2 s1 b1 b2 k1 k2 hg hg1
  have hi : ∀ w, (Instr.index 9 (.string s) (.int .i64 (q : Int))).run Tryz.prog w = .ok (.int .u8 ((byt s q : Nat) : Int)) w := fun w => idx_str s q hq w
  have hw1 : IntKind.i64.wrap ((q : Int) + 1) = (q : Int) + 1 := by rw [IntKind.wrap_i64]; omega
  have l1 := byt_lt s q
  by_cases h34 : byt s q = 34
  · have CE : Hid _ := fun (v : World) => pattern13_any s (q + 1) hs (by omega) v
    rw [show ((q + 1 : Nat) : Int) = (q : Int) + 1 by omega] at CE
    have hlen : (rls (ptl s (s.size + 1) (q + 1) [])).length ≤ 64 := by
      cases h : ptl s (s.size + 1) (q + 1) [] with
      | error e => show ([] : List (Nat → Bool)).length ≤ 64; simp
      | ok r => obtain ⟨P, n⟩ := r; exact (ptl_next _ _ _ _ _ h (by simp) (by simp)).2.2.2.2
    have HF : Hid (rpl (tok1 s q) = rpl (ptl s (s.size + 1) (q + 1) []) ∧ rcd (tok1 s q) = rcd (ptl s (s.size + 1) (q + 1) []) ∧ ∀ t m, tok1 s q = .ok (t, m) → (⟨8, (q : Int), 0, rls (ptl s (s.size + 1) (q + 1) [])⟩ : Ti) = t.i) := by
      show _ ∧ _ ∧ _
      unfold tok1
      rw [if_pos h34]
      cases ptl s (s.size + 1) (q + 1) [] with
      | error e => exact ⟨rfl, rfl, fun t m e => by cases e⟩
      | ok r =>
        obtain ⟨P, n⟩ := r
        refine ⟨rfl, rfl, fun t m e => ?_⟩
        simp only [Except.ok.injEq, Prod.mk.injEq] at e
        rw [← e.1]
        rfl
    rw [h34] at hi
    generalize ptl s (s.size + 1) (q + 1) [] = r at *
    clear h34
    go_enter Tryz.func39, Tryz.ntmps39
    go_wp2_with (first | rw [← E1.out] | rw [← E2.out] | rw [HG.out])
    try rw [HG.out]
    refine Calls.mono (CE.out w2) ?_; rintro e w3 ⟨⟨b, x, y, z, u, v, rfl, ho⟩, b3⟩
    simp only [gotv]
    obtain ⟨ao, cap, rfl, hlf⟩ := ownC_lf ho (by omega)
    have hnew := ownC_new ho rfl
    obtain ⟨w4, e4⟩ : ∃ w4, w4 = w3.alloc (.cells #[.int .u8 b, .int .u64 x, .int .u64 y, .int .u64 z, .int .u64 u, .slice ao (rls r).length cap, .int .i64 0, .int .i64 (rpl r : Nat), .int .i64 (rcd r : Nat)] 80) := ⟨_, rfl⟩
    have b34 : Below w3.heap.size w3 w4 := by rw [e4]; exact al_below _ _
    have q4 : G9 w4 w3.heap.size (.int .u8 b) (.int .u64 x) (.int .u64 y) (.int .u64 z) (.int .u64 u) (.slice ao (rls r).length cap) (.int .i64 0) (.int .i64 (rpl r : Nat)) (.int .i64 (rcd r : Nat)) := by rw [e4]; exact g9_made _ _ _ _ _ _ _ _ _ _ _
    have K4A : Hid (Kb w w4 w.heap.size) := (KA.out.grow b3).grow b34
    have K4G : Hid (Gb w w4 g) := (KG.out.grow b3).grow b34
    have HL : Hid (Lf w4 ao (rls r).length (at' (rls r))) := hlf.grow b34
    have HN : Hid (∀ b o, ao = some ⟨b, o, none⟩ → w2.heap.size ≤ b) := hnew
    have HB2 : Hid (w.heap.size ≤ w2.heap.size ∧ w.heap.size < w2.heap.size ∧ g < w2.heap.size) := ⟨KA.out.bel.size, KA.out.hi, KG.out.hi⟩
    have E4 : Hid _ := e4
    have hn1 : w.heap.size ≠ w3.heap.size := by have := (KA.out.grow b3).hi; omega
    have hn2 : g ≠ w3.heap.size := by have := (KG.out.grow b3).hi; omega
    clear e4 b3 b34 ho hlf hnew
    obtain ⟨k0, k1, k2, k3, k4, k5, k6, k7, k8⟩ := q4
    obtain ⟨xx0, xx1, xx2, xx3, r0, r1, r2, r3⟩ := K4A.out.c
    have fr0 := K4A.out.f 0
    have fr1 := K4A.out.f 1
    have fr2 := K4A.out.f 2
    have fr3 := K4A.out.f 3
    obtain ⟨yy0, yy1, yy2, yy3, yy4, yy5, yy6, yy7, yy8, c0, c1, c2, c3, c4, c5, c6, c7, c8⟩ := K4G.out.c
    have fg0 := K4G.out.f 0
    have fg1 := K4G.out.f 1
    have fg2 := K4G.out.f 2
    have fg3 := K4G.out.f 3
    have fg4 := K4G.out.f 4
    have fg5 := K4G.out.f 5
    have fg6 := K4G.out.f 6
    have fg7 := K4G.out.f 7
    have fg8 := K4G.out.f 8
    go_wp2_with (first | rw [← E4.out])
    go_region
    all_goals
      go_wp2_with fail
      refine one_close (one_row (r := tok1 s q) (k := 8) (q := q) (p := (rpl r : Nat)) (c := (rcd r : Nat)) (b := b) (y := x) (z := y) (u := z) (s := u) (L := rls r) (ao := ao) (cap := cap) (m := 0) ?_ HL.out HN.out HB2.out.1 HB2.out.2.1 HB2.out.2.2 ?_ ?_ ?_ rfl rfl rfl)
      · first
          | (with_reducible exact (oneA' K4A.out K4G.out hne _ _ _ _ _ _ _ _ _ _ _ _ _).drew)
          | (with_reducible exact (oneB' K4A.out K4G.out hne _ _ _ _ _ _ _ _ _ _ _ _ _).drew)
          | (with_reducible exact oneA' K4A.out K4G.out hne _ _ _ _ _ _ _ _ _ _ _ _ _)
          | (with_reducible exact oneB' K4A.out K4G.out hne _ _ _ _ _ _ _ _ _ _ _ _ _)
      · rw [HF.out.1]
      · rw [HF.out.2.1]
      · exact HF.out.2.2
  · have h34I : ((((byt s q : Nat) : Int)) == 34) = false := beq_eq_false_iff_ne.2 (by omega)
    have CK : Hid _ := fun (v : World) => kind13_any (byt s q) v
    have hk7 := knd_le7 (byt s q)
    have HT : Hid (tok1 s q = if knd (byt s q) = 0 then .error (q, 130) else if knd (byt s q) < 6 then .ok (⟨knd (byt s q), q, 0, []⟩, q + 1) else match nmb s (q + 1) with | .error e => .error e | .ok (m, n) => .ok (⟨knd (byt s q), q, m, []⟩, n)) := by
      show _ = _
      unfold tok1
      rw [if_neg h34]
      cases nmb s (q + 1) <;> rfl
    obtain ⟨k, hk⟩ : ∃ k, knd (byt s q) = k := ⟨_, rfl⟩
    rw [hk] at CK hk7 HT
    clear hk h34
    generalize byt s q = yb at *
    by_cases h0 : k = 0
    · have HF : Hid (tok1 s q = .error (q, 130)) := by show _ = _; rw [HT.out, if_pos h0]
      have h0I : ((k : Int) == 0) = true := beq_iff_eq.2 (by omega)
      clear h0 HT hk7
      go_enter Tryz.func39, Tryz.ntmps39
      go_wp2_with (first | rw [← E1.out] | rw [← E2.out] | rw [HG.out])
      try rw [HG.out]
      refine Calls.mono (CK.out w2) ?_; rintro e w3 ⟨rfl, b3⟩
      have K3A : Hid (Kb w w3 w.heap.size) := KA.out.grow b3
      have K3G : Hid (Gb w w3 g) := KG.out.grow b3
      clear b3
      obtain ⟨x0, x1, x2, x3, r0, r1, r2, r3⟩ := K3A.out.c
      have fr0 := K3A.out.f 0
      have fr1 := K3A.out.f 1
      have fr2 := K3A.out.f 2
      have fr3 := K3A.out.f 3
      obtain ⟨y0, y1, y2, y3, y4, y5, y6, y7, y8, c0, c1, c2, c3, c4, c5, c6, c7, c8⟩ := K3G.out.c
      have fg0 := K3G.out.f 0
      have fg1 := K3G.out.f 1
      have fg2 := K3G.out.f 2
      have fg3 := K3G.out.f 3
      have fg4 := K3G.out.f 4
      have fg5 := K3G.out.f 5
      have fg6 := K3G.out.f 6
      have fg7 := K3G.out.f 7
      have fg8 := K3G.out.f 8
      go_wp2_with fail
      refine one_close (one_plain (r := tok1 s q) (v := w3) (k := 0) (q := 0) (n := 0) (p := q) (c := 130) (m := 0) (b := 0) (y := 0) (z := 0) (u := 0) (s := 0) (va := none) (vl := 0) (vc := 0) ?_ ?_ ?_ ?_ rfl rfl rfl)
      · first
          | (with_reducible exact (oneA' K3A.out K3G.out hne _ _ _ _ _ _ _ _ _ _ _ _ _).drew)
          | (with_reducible exact (oneB' K3A.out K3G.out hne _ _ _ _ _ _ _ _ _ _ _ _ _).drew)
          | (with_reducible exact oneA' K3A.out K3G.out hne _ _ _ _ _ _ _ _ _ _ _ _ _)
          | (with_reducible exact oneB' K3A.out K3G.out hne _ _ _ _ _ _ _ _ _ _ _ _ _)
      · rw [HF.out]; rfl
      · rw [HF.out]; rfl
      · exact fun t m e => by rw [HF.out] at e; cases e
    · have h0I : ((k : Int) == 0) = false := beq_eq_false_iff_ne.2 (by omega)
      by_cases h6 : k < 6
      · have HF : Hid (tok1 s q = .ok (⟨k, q, 0, []⟩, q + 1)) := by show _ = _; rw [HT.out, if_neg h0, if_pos h6]
        have h6I : (k : Int) < 6 := by omega
        clear HT hk7
        go_enter Tryz.func39, Tryz.ntmps39
        go_wp2_with (first | rw [← E1.out] | rw [← E2.out] | rw [HG.out])
        try rw [HG.out]
        refine Calls.mono (CK.out w2) ?_; rintro e w3 ⟨rfl, b3⟩
        have K3A : Hid (Kb w w3 w.heap.size) := KA.out.grow b3
        have K3G : Hid (Gb w w3 g) := KG.out.grow b3
        clear b3
        obtain ⟨x0, x1, x2, x3, r0, r1, r2, r3⟩ := K3A.out.c
        have fr0 := K3A.out.f 0
        have fr1 := K3A.out.f 1
        have fr2 := K3A.out.f 2
        have fr3 := K3A.out.f 3
        obtain ⟨y0, y1, y2, y3, y4, y5, y6, y7, y8, c0, c1, c2, c3, c4, c5, c6, c7, c8⟩ := K3G.out.c
        have fg0 := K3G.out.f 0
        have fg1 := K3G.out.f 1
        have fg2 := K3G.out.f 2
        have fg3 := K3G.out.f 3
        have fg4 := K3G.out.f 4
        have fg5 := K3G.out.f 5
        have fg6 := K3G.out.f 6
        have fg7 := K3G.out.f 7
        have fg8 := K3G.out.f 8
        go_wp2_with fail
        refine one_close (one_plain (r := tok1 s q) (v := w3) (k := k) (q := q) (n := 0) (p := (q : Int) + 1) (c := 0) (m := 0) (b := 0) (y := 0) (z := 0) (u := 0) (s := 0) (va := none) (vl := 0) (vc := 0) ?_ ?_ ?_ ?_ rfl rfl rfl)
        · first
            | (with_reducible exact (oneA' K3A.out K3G.out hne _ _ _ _ _ _ _ _ _ _ _ _ _).drew)
            | (with_reducible exact (oneB' K3A.out K3G.out hne _ _ _ _ _ _ _ _ _ _ _ _ _).drew)
            | (with_reducible exact oneA' K3A.out K3G.out hne _ _ _ _ _ _ _ _ _ _ _ _ _)
            | (with_reducible exact oneB' K3A.out K3G.out hne _ _ _ _ _ _ _ _ _ _ _ _ _)
        · rw [HF.out]; rfl
        · rw [HF.out]; rfl
        · exact fun t m e => by rw [HF.out] at e; simp only [Except.ok.injEq, Prod.mk.injEq] at e; rw [← e.1]; rfl
      · have h6I : ¬ (k : Int) < 6 := by omega
        have CN : Hid _ := fun (v : World) => number13_any s (q + 1) hs (by omega) v
        rw [show ((q + 1 : Nat) : Int) = (q : Int) + 1 by omega] at CN
        cases hr : nmb s (q + 1) with
        | error r =>
          obtain ⟨p, c⟩ := r
          have HF : Hid (tok1 s q = .error (p, c)) := by show _ = _; rw [HT.out, if_neg h0, if_neg h6, hr]
          rw [hr] at CN
          simp only [rdn, gotv] at CN
          clear HT hk7 hr
          go_enter Tryz.func39, Tryz.ntmps39
          go_wp2_with (first | rw [← E1.out] | rw [← E2.out] | rw [HG.out])
          try rw [HG.out]
          refine Calls.mono (CK.out w2) ?_; rintro e w3 ⟨rfl, b3⟩
          go_wp2_with fail
          refine Calls.mono (CN.out w3) ?_; rintro e w5 ⟨rfl, b5⟩
          obtain ⟨w4, e4⟩ : ∃ w4, w4 = w5.alloc (.cells #[.int .u8 0, .int .u64 0, .int .u64 0, .int .u64 0, .int .u64 0, .slice none 0 0, .int .i64 0, .int .i64 (p : Int), .int .i64 (c : Int)] 80) := ⟨_, rfl⟩
          have b54 : Below w5.heap.size w5 w4 := by rw [e4]; exact al_below _ _
          have q4 : G9 w4 w5.heap.size (.int .u8 0) (.int .u64 0) (.int .u64 0) (.int .u64 0) (.int .u64 0) (.slice none 0 0) (.int .i64 0) (.int .i64 (p : Int)) (.int .i64 (c : Int)) := by rw [e4]; exact g9_made _ _ _ _ _ _ _ _ _ _ _
          have K4A : Hid (Kb w w4 w.heap.size) := ((KA.out.grow b3).grow b5).grow b54
          have K4G : Hid (Gb w w4 g) := ((KG.out.grow b3).grow b5).grow b54
          have E4 : Hid _ := e4
          have hn1 : w.heap.size ≠ w5.heap.size := by have := ((KA.out.grow b3).grow b5).hi; omega
          have hn2 : g ≠ w5.heap.size := by have := ((KG.out.grow b3).grow b5).hi; omega
          clear e4 b3 b5 b54
          obtain ⟨k0, k1, k2, k3, k4, k5, k6, k7, k8⟩ := q4
          obtain ⟨x0, x1, x2, x3, r0, r1, r2, r3⟩ := K4A.out.c
          have fr0 := K4A.out.f 0
          have fr1 := K4A.out.f 1
          have fr2 := K4A.out.f 2
          have fr3 := K4A.out.f 3
          obtain ⟨y0, y1, y2, y3, y4, y5, y6, y7, y8, c0, c1, c2, c3, c4, c5, c6, c7, c8⟩ := K4G.out.c
          have fg0 := K4G.out.f 0
          have fg1 := K4G.out.f 1
          have fg2 := K4G.out.f 2
          have fg3 := K4G.out.f 3
          have fg4 := K4G.out.f 4
          have fg5 := K4G.out.f 5
          have fg6 := K4G.out.f 6
          have fg7 := K4G.out.f 7
          have fg8 := K4G.out.f 8
          go_wp2_with (first | rw [← E4.out])
          go_region
          all_goals
            go_wp2_with fail
            refine one_close (one_plain (r := tok1 s q) (v := w4) (k := k) (q := q) (n := 0) (p := (p : Int)) (c := (c : Int)) (m := 0) (b := 0) (y := 0) (z := 0) (u := 0) (s := 0) (va := none) (vl := 0) (vc := 0) ?_ ?_ ?_ ?_ rfl rfl rfl)
            · first
                | (with_reducible exact (oneA' K4A.out K4G.out hne _ _ _ _ _ _ _ _ _ _ _ _ _).drew)
                | (with_reducible exact (oneB' K4A.out K4G.out hne _ _ _ _ _ _ _ _ _ _ _ _ _).drew)
                | (with_reducible exact oneA' K4A.out K4G.out hne _ _ _ _ _ _ _ _ _ _ _ _ _)
                | (with_reducible exact oneB' K4A.out K4G.out hne _ _ _ _ _ _ _ _ _ _ _ _ _)
            · rw [HF.out]; rfl
            · rw [HF.out]; rfl
            · exact fun t m e => by rw [HF.out] at e; cases e
        | ok r =>
          obtain ⟨m, n⟩ := r
          have HF : Hid (tok1 s q = .ok (⟨k, q, m, []⟩, n)) := by show _ = _; rw [HT.out, if_neg h0, if_neg h6, hr]
          rw [hr] at CN
          simp only [rdn, gotv] at CN
          clear HT hk7 hr
          go_enter Tryz.func39, Tryz.ntmps39
          go_wp2_with (first | rw [← E1.out] | rw [← E2.out] | rw [HG.out])
          try rw [HG.out]
          refine Calls.mono (CK.out w2) ?_; rintro e w3 ⟨rfl, b3⟩
          go_wp2_with fail
          refine Calls.mono (CN.out w3) ?_; rintro e w5 ⟨rfl, b5⟩
          obtain ⟨w4, e4⟩ : ∃ w4, w4 = w5.alloc (.cells #[.int .u8 0, .int .u64 0, .int .u64 0, .int .u64 0, .int .u64 0, .slice none 0 0, .int .i64 (m : Int), .int .i64 (n : Int), .int .i64 0] 80) := ⟨_, rfl⟩
          have b54 : Below w5.heap.size w5 w4 := by rw [e4]; exact al_below _ _
          have q4 : G9 w4 w5.heap.size (.int .u8 0) (.int .u64 0) (.int .u64 0) (.int .u64 0) (.int .u64 0) (.slice none 0 0) (.int .i64 (m : Int)) (.int .i64 (n : Int)) (.int .i64 0) := by rw [e4]; exact g9_made _ _ _ _ _ _ _ _ _ _ _
          have K4A : Hid (Kb w w4 w.heap.size) := ((KA.out.grow b3).grow b5).grow b54
          have K4G : Hid (Gb w w4 g) := ((KG.out.grow b3).grow b5).grow b54
          have E4 : Hid _ := e4
          have hn1 : w.heap.size ≠ w5.heap.size := by have := ((KA.out.grow b3).grow b5).hi; omega
          have hn2 : g ≠ w5.heap.size := by have := ((KG.out.grow b3).grow b5).hi; omega
          clear e4 b3 b5 b54
          obtain ⟨k0, k1, k2, k3, k4, k5, k6, k7, k8⟩ := q4
          obtain ⟨x0, x1, x2, x3, r0, r1, r2, r3⟩ := K4A.out.c
          have fr0 := K4A.out.f 0
          have fr1 := K4A.out.f 1
          have fr2 := K4A.out.f 2
          have fr3 := K4A.out.f 3
          obtain ⟨y0, y1, y2, y3, y4, y5, y6, y7, y8, c0, c1, c2, c3, c4, c5, c6, c7, c8⟩ := K4G.out.c
          have fg0 := K4G.out.f 0
          have fg1 := K4G.out.f 1
          have fg2 := K4G.out.f 2
          have fg3 := K4G.out.f 3
          have fg4 := K4G.out.f 4
          have fg5 := K4G.out.f 5
          have fg6 := K4G.out.f 6
          have fg7 := K4G.out.f 7
          have fg8 := K4G.out.f 8
          go_wp2_with (first | rw [← E4.out])
          go_region
          all_goals
            go_wp2_with fail
            refine one_close (one_plain (r := tok1 s q) (v := w4) (k := k) (q := q) (n := (m : Int)) (p := (n : Int)) (c := 0) (m := (m : Int)) (b := 0) (y := 0) (z := 0) (u := 0) (s := 0) (va := none) (vl := 0) (vc := 0) ?_ ?_ ?_ ?_ rfl rfl rfl)
            · first
                | (with_reducible exact (oneA' K4A.out K4G.out hne _ _ _ _ _ _ _ _ _ _ _ _ _).drew)
                | (with_reducible exact (oneB' K4A.out K4G.out hne _ _ _ _ _ _ _ _ _ _ _ _ _).drew)
                | (with_reducible exact oneA' K4A.out K4G.out hne _ _ _ _ _ _ _ _ _ _ _ _ _)
                | (with_reducible exact oneB' K4A.out K4G.out hne _ _ _ _ _ _ _ _ _ _ _ _ _)
            · rw [HF.out]; rfl
            · rw [HF.out]; rfl
            · exact fun t m e => by rw [HF.out] at e; simp only [Except.ok.injEq, Prod.mk.injEq] at e; rw [← e.1]; rfl

end Cls
end Go.Proofs.YtbnnobeahliffaaGreatDoor
