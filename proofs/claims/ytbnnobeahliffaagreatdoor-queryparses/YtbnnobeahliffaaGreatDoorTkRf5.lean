/- Contract of beagleref13.Lex. (Written by mktk10.py.) -/
import Derived.Test.YtbnnobeahliffaaGreatDoorTkRf4
import Derived.Test.YtbnnobeahliffaaGreatDoorTkRd8
set_option linter.unusedVariables false
namespace Go.Proofs.YtbnnobeahliffaaGreatDoor
open Go.RowKit
namespace Cls

theorem infoR : ∃ i, Tryz.prog.info? 56 = some i ∧ i.zero = some (.agg #[.int .i64 0, .int .i64 0, .int .i64 0, .slice none 0 0]) ∧ i.size = 4 ∧ i.bytes = 48 := by
  have h : (Tryz.prog.info? 56).map (fun i => (i.zero, i.size, i.bytes)) = some (some (.agg #[.int .i64 0, .int .i64 0, .int .i64 0, .slice none 0 0]), 4, 48) := by kernel_rfl
  obtain ⟨i, hi, hz⟩ := Option.map_eq_some_iff.1 h
  simp only [Prod.mk.injEq] at hz
  exact ⟨i, hi, hz.1, hz.2.1, hz.2.2⟩

theorem g9_grown {w w' : World} {row : Option Nat} {g : Nat} {v0 v1 v2 v3 v4 v5 v6 v7 v8 : Value} (h : G9 w g v0 v1 v2 v3 v4 v5 v6 v7 v8) (hg : w.grownBy w' row) (hlt : g < w.heap.size) (hr : some g ≠ row) : G9 w' g v0 v1 v2 v3 v4 v5 v6 v7 v8 := by
  obtain ⟨c0, c1, c2, c3, c4, c5, c6, c7, c8⟩ := h
  refine ⟨?_, ?_, ?_, ?_, ?_, ?_, ?_, ?_, ?_⟩
  all_goals
    rw [World.cell?_of_block (w := w) (hg.block g hlt hr)]
    assumption

theorem gb9 {w : World} {o : Obj} {g : Nat} {v0 v1 v2 v3 v4 v5 v6 v7 v8 : Value} (h : G9 w g v0 v1 v2 v3 v4 v5 v6 v7 v8) (_ : g < w.heap.size) : G9 (w.alloc o) g v0 v1 v2 v3 v4 v5 v6 v7 v8 := h.stay (al_below w o)

theorem boxes13 {w3 w4 w5 w6 w7 : World} {g : Nat} {x0 x1 x2 x3 y0 y1 y2 y3 y4 y5 y6 y7 y8 : Value} (e4 : w4 = w3.alloc (.cells #[.int .i64 0, .int .i64 0, .int .i64 0, .slice none 0 0] 56)) (e5 : w5 = w4.alloc (.cells #[.int .u8 0, .int .u64 0, .int .u64 0, .int .u64 0, .int .u64 0, .slice none 0 0, .int .i64 0, .int .i64 0, .int .i64 0] 80)) (hg : g = w3.heap.size + 1) (e6 : w6 = set4v w5 w3.heap.size x0 x1 x2 x3) (e7 : w7 = set9 w6 g y0 y1 y2 y3 y4 y5 y6 y7 y8) :
    Kb w3 w5 w3.heap.size ∧ Gb w3 w6 g ∧ w4.heap.size = g ∧ OneEnd w3 w5 w7 w3.heap.size g x0 x1 x2 x3 y0 y1 y2 y3 y4 y5 y6 y7 y8 := by
  have s4 : w4.heap.size = w3.heap.size + 1 := by rw [e4, al_size]
  have b4 : Below w3.heap.size w3 w4 := by rw [e4]; exact al_below _ _
  have b5 : Below w4.heap.size w4 w5 := by rw [e5]; exact al_below _ _
  have k1 : Kb w3 w4 w3.heap.size := by rw [e4]; exact kb_new _ _ _ _ _ _
  have k5 : Kb w3 w5 w3.heap.size := k1.grow b5
  have g5 : Gb w3 w5 w4.heap.size := by rw [e5]; exact gb_more b4 _ _ _ _ _ _ _ _ _ _
  have hg4 : w4.heap.size = g := by omega
  rw [hg4] at g5
  have hne : w3.heap.size ≠ g := by omega
  have p1 := k5.put x0 x1 x2 x3
  have g6 := g5.wrote (set4v_wrote w5 w3.heap.size x0 x1 x2 x3) (fun t e => hne e.symm) p1.2.bel
  rw [← e6] at g6
  refine ⟨k5, g6, hg4, ?_⟩
  rw [e7, e6]
  exact oneA k5 g5 hne _ _ _ _ _ _ _ _ _ _ _ _ _

/-- Where the loop of tokens stands. -/
structure Lx13 (w wr : World) (s : ByteArray) (q fuel : Nat) (out : List Tk) (L : List Tv) (v : Value) : Prop where
  bel : Below w.heap.size w wr
  own : OT wr w.heap.size 56 v L
  is : L.map Tv.i = out.map Tk.i
  hi : q ≤ s.size
  fu : s.size + 1 ≤ fuel + q
  few : L.length + fuel ≤ s.size + 1
  eq : lxl s (s.size + 1) 0 [] = lxl s fuel q out

set_option maxRecDepth 100000 in
set_option maxHeartbeats 4000000 in
theorem lex13_any (s : ByteArray) (hs : s.size ≤ 1000000) (w : World) :
    Calls Tryz.prog 21 #[.string s] w fun e w' => (∃ v L, e = .returned (.tuple #[v, .int .i64 (lpl s : Nat), .int .i64 (lcd s : Nat)]) ∧ OT w' w.heap.size 56 v L ∧ L.map Tv.i = (lls s).map Tk.i) ∧ Below w.heap.size w w' := by
  obtain ⟨i0, hi0, hz0, hz1, hz2⟩ := infoR
  by_cases hbig : 1000 < s.size
  · have hx := lex_err (show lex1 s = .error (1000, 135) by unfold lex1; rw [if_pos hbig])
    have hbI : (1000 : Int) < (s.size : Int) := by omega
    have HX : Hid _ := hx
    clear hx
    go_enter Tryz.func21, Tryz.ntmps21
    go_wp2_with fail
    try simp only [Exit.noGoto]
    refine bodyPost_ret (results_tmp3 rfl _ _ _) rfl ?_
    exact ⟨⟨.slice none 0 0, [], by rw [HX.out.1, HX.out.2.1]; rfl, ot_nil _ _ _, by rw [HX.out.2.2]; rfl⟩, Below.refl _ _⟩
  · have hbI : ¬ (1000 : Int) < (s.size : Int) := by omega
    have hlex : lex1 s = lxl s (s.size + 1) 0 [] := by unfold lex1; rw [if_neg hbig]
    go_enter Tryz.func21, Tryz.ntmps21
    go_wp2_with fail
    go_loopw [5, 6] (fun v vq wr => ∃ (q fuel : Nat) (out : List Tk) (L : List Tv), vq = .int .i64 (q : Int) ∧ Lx13 w wr s q fuel out L v) (fun _ vq _ => s.size - (intOf vq).toNat)
    case atStart => exact ⟨0, s.size + 1, [], [], rfl, ⟨Below.refl _ _, ot_nil _ _ _, rfl, by omega, by omega, by simp, rfl⟩⟩
    case round =>
      obtain ⟨q, fuel, out, L, rfl, hP⟩ := hrel
      have HB : Hid (Below w.heap.size w wr) := hP.bel
      have HO : Hid (OT wr w.heap.size 56 u5 L) := hP.own
      have HM : Hid (L.map Tv.i = out.map Tk.i) := hP.is
      have hhi := hP.hi
      obtain ⟨f', rfl⟩ : ∃ f', fuel = f' + 1 := ⟨fuel - 1, by have := hP.fu; omega⟩
      have hfu := hP.fu
      have hfew := hP.few
      have heq := hP.eq
      rw [lxl_step s f' q out] at heq
      clear hP
      have hwq : IntKind.i64.wrap ((q : Int) + 1) = (q : Int) + 1 := by rw [IntKind.wrap_i64]; omega
      by_cases hq : q < s.size
      · rw [if_neg (by omega)] at heq
        have hqI : (q : Int) < (s.size : Int) := by omega
        by_cases h32 : byt s q = 32
        · rw [if_pos h32] at heq
          have hi : ∀ w, (Instr.index 9 (.string s) (.int .i64 (q : Int))).run Tryz.prog w = .ok (.int .u8 32) w := fun w => by rw [idx_str s q hq w, h32]; rfl
          have HQ : Hid _ := heq
          clear heq
          go_wp2_with fail
          obtain ⟨q2, hq2⟩ : ∃ q2, q2 = q + 1 := ⟨_, rfl⟩
          have hc : (q : Int) + 1 = (q2 : Int) := by omega
          rw [hc]
          refine ⟨⟨q2, f', out, L, rfl, ⟨HB.out, HO.out, HM.out, by omega, by omega, by omega, by rw [hq2]; exact HQ.out⟩⟩, ?_⟩
          show s.size - ((q2 : Int)).toNat < s.size - ((q : Int)).toNat
          omega
        · rw [if_neg h32] at heq
          have hi : ∀ w, (Instr.index 9 (.string s) (.int .i64 (q : Int))).run Tryz.prog w = .ok (.int .u8 ((byt s q : Nat) : Int)) w := fun w => idx_str s q hq w
          have h32I : ((((byt s q : Nat) : Int)) == 32) = false := beq_eq_false_iff_ne.2 (by omega)
          have CE : Hid _ := fun (v : World) => one13_any s q hs hq v
          cases hr : tok1 s q with
          | error r =>
            obtain ⟨p, c⟩ := r
            have hc : ((c : Int) == 0) = false := by
              have := rcd_code0 hq hr
              exact beq_eq_false_iff_ne.2 (by omega)
            rw [hr] at CE heq
            simp only at heq
            have HX : Hid _ := lex_err (hlex.trans heq)
            clear heq hr hlex
            generalize byt s q = y at hi h32I h32
            go_wp2_with fail
            refine Calls.mono (CE.out wr) ?_; rintro e w3 ⟨⟨x, gb, g1, g2, g3, g4, gm, ga, gl, gq, rfl, _, hxo, _⟩, b3⟩
            unfold Tv.val gotv
            simp only [show rpl (.error (p, c) : Rd Tk) = p from rfl, show rcd (.error (p, c) : Rd Tk) = c from rfl]
            obtain ⟨⟨xk, xa, xn, xp⟩, xo, xc⟩ := x
            simp only
            clear hxo
            generalize xp.length = xl
            obtain ⟨w4, e4⟩ : ∃ w4, w4 = w3.alloc (.cells #[.int .i64 0, .int .i64 0, .int .i64 0, .slice none 0 0] 56) := ⟨_, rfl⟩
            obtain ⟨w5, e5⟩ : ∃ w5, w5 = w4.alloc (.cells #[.int .u8 0, .int .u64 0, .int .u64 0, .int .u64 0, .int .u64 0, .slice none 0 0, .int .i64 0, .int .i64 0, .int .i64 0] 80) := ⟨_, rfl⟩
            obtain ⟨g, hg⟩ : ∃ g, g = w3.heap.size + 1 := ⟨_, rfl⟩
            obtain ⟨w6, e6⟩ : ∃ w6, w6 = ((((w5.setCell ⟨w3.heap.size, 0, none⟩ (.int .i64 xk)).setCell ⟨w3.heap.size, 1, none⟩ (.int .i64 xa)).setCell ⟨w3.heap.size, 2, none⟩ (.int .i64 xn)).setCell ⟨w3.heap.size, 3, none⟩ (.slice xo xl xc)) := ⟨_, rfl⟩
            obtain ⟨w7, e7⟩ : ∃ w7, w7 = (((((((((w6.setCell ⟨g, 0, none⟩ (.int .u8 gb)).setCell ⟨g, 1, none⟩ (.int .u64 g1)).setCell ⟨g, 2, none⟩ (.int .u64 g2)).setCell ⟨g, 3, none⟩ (.int .u64 g3)).setCell ⟨g, 4, none⟩ (.int .u64 g4)).setCell ⟨g, 5, none⟩ (.slice ga gl gq)).setCell ⟨g, 6, none⟩ (.int .i64 gm)).setCell ⟨g, 7, none⟩ (.int .i64 (p : Nat))).setCell ⟨g, 8, none⟩ (.int .i64 (c : Nat))) := ⟨_, rfl⟩
            obtain ⟨K5, K6, hg4, K7⟩ := boxes13 e4 e5 hg e6 e7
            have HG : Hid (w4.heap.size = g) := hg4
            have K5H : Hid _ := K5
            have K6H : Hid _ := K6
            have K7H : Hid _ := K7
            have E4 : Hid _ := e4
            have E5 : Hid _ := e5
            have E6 : Hid _ := e6
            have E7 : Hid _ := e7
            have b37 : Below w3.heap.size w3 w7 := K7.bel
            clear e4 e5 e6 e7 K5 K6 K7 hg4
            obtain ⟨za0, za1, za2, za3, ra0, ra1, ra2, ra3⟩ := K5H.out.c
            have fa0 := K5H.out.f 0
            have fa1 := K5H.out.f 1
            have fa2 := K5H.out.f 2
            have fa3 := K5H.out.f 3
            obtain ⟨zb0, zb1, zb2, zb3, zb4, zb5, zb6, zb7, zb8, rb0, rb1, rb2, rb3, rb4, rb5, rb6, rb7, rb8⟩ := K6H.out.c
            have fb0 := K6H.out.f 0
            have fb1 := K6H.out.f 1
            have fb2 := K6H.out.f 2
            have fb3 := K6H.out.f 3
            have fb4 := K6H.out.f 4
            have fb5 := K6H.out.f 5
            have fb6 := K6H.out.f 6
            have fb7 := K6H.out.f 7
            have fb8 := K6H.out.f 8
            obtain ⟨a0, a1, a2, a3⟩ := K7H.out.k
            obtain ⟨k0, k1, k2, k3, k4, k5, k6, k7, k8⟩ := K7H.out.q
            have HB4 : Hid (Below w.heap.size w w7) := HB.out.trans ((b3.trans (b37.mono b3.size)).mono HB.out.size)
            clear b3 b37 HO HB hg
            go_wp2_with (first | rw [← E7.out] | rw [← E6.out] | rw [← E4.out] | rw [← E5.out] | rw [HG.out])
            go_region
            all_goals
              go_wp2_with fail
              try simp only [Exit.noGoto]
              refine bodyPost_ret (results_tmp3 rfl _ _ _) rfl ?_
              exact ⟨⟨.slice none 0 0, [], by rw [HX.out.1, HX.out.2.1]; rfl, ot_nil _ _ _, by rw [HX.out.2.2]; rfl⟩, by first | exact HB4.out | exact HB4.out.drew⟩
          | ok r =>
            obtain ⟨t, n⟩ := r
            obtain ⟨n1, n2, _⟩ := tok1_next hq hr
            rw [hr] at CE heq
            simp only at heq
            have HQ : Hid _ := heq
            clear heq hr
            generalize byt s q = y at hi h32I h32
            go_wp2_with fail
            refine Calls.mono (CE.out wr) ?_; rintro e w3 ⟨⟨x, gb, g1, g2, g3, g4, gm, ga, gl, gq, rfl, hxi, hxo, hxn⟩, b3⟩
            have HXI : Hid (x.i = t.i) := hxi t n rfl
            unfold Tv.val gotv
            simp only [show rpl (.ok (t, n) : Rd Tk) = n from rfl, show rcd (.ok (t, n) : Rd Tk) = 0 from rfl, show ((0 : Nat) : Int) = 0 from rfl]
            obtain ⟨xk, hxk⟩ : ∃ xk, x.i.kind = xk := ⟨_, rfl⟩
            obtain ⟨xa, hxa⟩ : ∃ xa, x.i.at' = xa := ⟨_, rfl⟩
            obtain ⟨xn, hxnn⟩ : ∃ xn, x.i.n = xn := ⟨_, rfl⟩
            obtain ⟨xl, hxl⟩ : ∃ xl, x.i.p.length = xl := ⟨_, rfl⟩
            obtain ⟨xo, hxoo⟩ : ∃ xo, x.ao = xo := ⟨_, rfl⟩
            obtain ⟨xc, hxc⟩ : ∃ xc, x.cap = xc := ⟨_, rfl⟩
            have NWA : ∀ (w : World) j u, x.four[j]? = some u → (w.alloc (.cells #[.int .i64 x.i.kind, .int .i64 x.i.at', .int .i64 x.i.n, .slice x.ao x.i.p.length x.cap] 56)).cell? ((⟨w.heap.size, 0, none⟩ : Addr).add j) = some u := fun w j u h => new4t w x 56 j u h
            have PLA : ∀ u ∈ x.four, u.oneCell' = true := plain4t x
            have hxo3 : x.ok w3 := hxo
            have A3 : 1 ≤ x.i.p.length → ∀ b o, x.ao = some ⟨b, o, none⟩ → some b ≠ u5.ownBlock := apart_new (w' := w3) HO.out hxn
            have O3 : OT w3 w.heap.size 56 u5 L := HO.out.grow b3
            have B3 : Below w.heap.size w w3 := HB.out.trans (b3.mono HB.out.size)
            have HMX : Hid ((L ++ [x]).map Tv.i = (out ++ [t]).map Tk.i) := by show _ = _; rw [List.map_append, List.map_append, HM.out]; simp [HXI.out]
            have HSTA : ∀ (w5 : World), Below w3.heap.size w3 w5 → ∀ v' w', w'.ownsRow w.heap.size 56 4 v' (L.length + 1) (tkc L ++ x.four) → (w5.alloc (.cells #[.int .i64 x.i.kind, .int .i64 x.i.at', .int .i64 x.i.n, .slice x.ao x.i.p.length x.cap] 56)).grownBy w' u5.ownBlock → (v'.ownBlock = u5.ownBlock ∨ v'.ownBlock = some (w5.heap.size + 1)) → OT w' w.heap.size 56 v' (L ++ [x]) := fun w5 h5 v' w' h1 h2 h3 => (O3.grow h5).step (hxo3.grow h5) A3 h1 h2 (by rw [al_size]; exact h3)
            have hapg : ∀ gg, u5.ownBlock = some gg → gg < w3.heap.size := fun gg e => (O3.lies gg e).2
            rw [hxk, hxa, hxnn, hxl, hxoo, hxc]
            unfold Tv.four at NWA PLA HSTA
            rw [hxk, hxa, hxnn, hxl, hxoo, hxc] at NWA PLA HSTA
            obtain ⟨w4, e4⟩ : ∃ w4, w4 = w3.alloc (.cells #[.int .i64 0, .int .i64 0, .int .i64 0, .slice none 0 0] 56) := ⟨_, rfl⟩
            obtain ⟨w5, e5⟩ : ∃ w5, w5 = w4.alloc (.cells #[.int .u8 0, .int .u64 0, .int .u64 0, .int .u64 0, .int .u64 0, .slice none 0 0, .int .i64 0, .int .i64 0, .int .i64 0] 80) := ⟨_, rfl⟩
            obtain ⟨g, hg⟩ : ∃ g, g = w3.heap.size + 1 := ⟨_, rfl⟩
            obtain ⟨w6, e6⟩ : ∃ w6, w6 = ((((w5.setCell ⟨w3.heap.size, 0, none⟩ (.int .i64 xk)).setCell ⟨w3.heap.size, 1, none⟩ (.int .i64 xa)).setCell ⟨w3.heap.size, 2, none⟩ (.int .i64 xn)).setCell ⟨w3.heap.size, 3, none⟩ (.slice xo xl xc)) := ⟨_, rfl⟩
            obtain ⟨w7, e7⟩ : ∃ w7, w7 = (((((((((w6.setCell ⟨g, 0, none⟩ (.int .u8 gb)).setCell ⟨g, 1, none⟩ (.int .u64 g1)).setCell ⟨g, 2, none⟩ (.int .u64 g2)).setCell ⟨g, 3, none⟩ (.int .u64 g3)).setCell ⟨g, 4, none⟩ (.int .u64 g4)).setCell ⟨g, 5, none⟩ (.slice ga gl gq)).setCell ⟨g, 6, none⟩ (.int .i64 gm)).setCell ⟨g, 7, none⟩ (.int .i64 (n : Nat))).setCell ⟨g, 8, none⟩ (.int .i64 0)) := ⟨_, rfl⟩
            obtain ⟨K5, K6, hg4, K7⟩ := boxes13 e4 e5 hg e6 e7
            have HG : Hid (w4.heap.size = g) := hg4
            have K5H : Hid _ := K5
            have K6H : Hid _ := K6
            have K7H : Hid _ := K7
            have E4 : Hid _ := e4
            have E5 : Hid _ := e5
            have E6 : Hid _ := e6
            have E7 : Hid _ := e7
            have b37 : Below w3.heap.size w3 w7 := K7.bel
            clear e4 e5 e6 e7 K5 K6 K7 hg4
            obtain ⟨za0, za1, za2, za3, ra0, ra1, ra2, ra3⟩ := K5H.out.c
            have fa0 := K5H.out.f 0
            have fa1 := K5H.out.f 1
            have fa2 := K5H.out.f 2
            have fa3 := K5H.out.f 3
            obtain ⟨zb0, zb1, zb2, zb3, zb4, zb5, zb6, zb7, zb8, rb0, rb1, rb2, rb3, rb4, rb5, rb6, rb7, rb8⟩ := K6H.out.c
            have fb0 := K6H.out.f 0
            have fb1 := K6H.out.f 1
            have fb2 := K6H.out.f 2
            have fb3 := K6H.out.f 3
            have fb4 := K6H.out.f 4
            have fb5 := K6H.out.f 5
            have fb6 := K6H.out.f 6
            have fb7 := K6H.out.f 7
            have fb8 := K6H.out.f 8
            obtain ⟨a0, a1, a2, a3⟩ := K7H.out.k
            obtain ⟨k0, k1, k2, k3, k4, k5, k6, k7, k8⟩ := K7H.out.q
            have HB5 : Hid (Below w.heap.size w w7) := B3.trans (b37.mono B3.size)
            have HST : Hid _ := HSTA w7 b37
            have HO5 : Hid (w7.ownsRow w.heap.size 56 4 u5 L.length (tkc L)) := (O3.grow b37).own
            have HAP : Hid (some g ≠ u5.ownBlock) := fun e => by have := hapg g e.symm; omega
            have hg5 : g < w7.heap.size := World.block_lt_of_cell? w7 _ k0
            have hsz : w.heap.size ≤ w7.heap.size := HB5.out.size
            have hfl : L.length + 1 ≤ 1000000 := by omega
            have PL : Hid _ := PLA
            have NW : Hid _ := NWA
            clear b3 b37 HB HO hxk hxa hxnn hxl hxoo hxc NWA PLA hxo3 hxo hxi hxn A3 O3 B3 HM HSTA hapg hg
            go_wp2_with (first | rw [← E7.out] | rw [← E6.out] | rw [← E4.out] | rw [← E5.out] | rw [HG.out] | (at_builtin; refine wpList_append_own_at _ rfl _ _ 49 rfl w.heap.size 56 i0 (.agg #[.int .i64 0, .int .i64 0, .int .i64 0, .slice none 0 0]) 4 48 Tryz.underlying49 hi0 hz0 hz1 hz2 rfl (by decide) _ _ _ rfl (HO5.out.alloc _) ⟨w7.heap.size, 0, none⟩ 1 1 [.int .i64 xk, .int .i64 xa, .int .i64 xn, .slice xo xl xc] rfl rfl ?c1 ?c2 ?c3 ?c4 ?c5 ?_))
            case c1 => exact NW.out w7
            case c2 => exact PL.out
            case c3 => unfold maxLen; omega
            case c4 => omega
            case c5 => first | omega | (simp; omega) | (show _ ≤ (w7.heap.push _).size; simp; omega)
            · intro v' w8 hown' hgrow _ hat
              have HR : Hid (Below w.heap.size w w8) := grow_below hsz HB5.out HO5.out hgrow
              have HO6 : Hid (OT w8 w.heap.size 56 v' (L ++ [x])) := HST.out v' w8 hown' hgrow hat
              have q8 := g9_grown (gb9 (o := .cells #[.int .i64 xk, .int .i64 xa, .int .i64 xn, .slice xo xl xc] 56) K7H.out.q hg5) hgrow (by rw [al_size]; omega) HAP.out
              clear hown' hgrow HO5 HB5 E4 E5 E6 E7 HG hat HST NW PL a0 a1 a2 a3 HAP K5H K6H K7H k0 k1 k2 k3 k4 k5 k6 k7 k8 rb0 rb1 rb2 rb3 rb4 rb5 rb6 rb7 rb8 fb0 fb1 fb2 fb3 fb4 fb5 fb6 fb7 fb8 ra0 ra1 ra2 ra3 fa0 fa1 fa2 fa3
              obtain ⟨m0, m1, m2, m3, m4, m5, m6, m7, m8⟩ := q8
              go_wp2_with fail
              refine ⟨⟨n, f', out ++ [t], L ++ [x], rfl, ⟨HR.out, HO6.out, HMX.out, n2, by omega, by rw [List.length_append, List.length_singleton]; omega, HQ.out⟩⟩, ?_⟩
              show s.size - ((n : Int)).toNat < s.size - ((q : Int)).toNat
              omega
      · obtain rfl : q = s.size := by omega
        rw [if_pos (Nat.le_refl _)] at heq
        have HX : Hid _ := lex_ok (hlex.trans heq)
        have hqI : ¬ (s.size : Int) < (s.size : Int) := by omega
        clear heq hlex
        go_wp2_with fail
        try simp only [Exit.noGoto]
        refine bodyPost_ret (results_tmp3 rfl _ _ _) rfl ?_
        exact ⟨⟨u5, by rw [HX.out.1, HX.out.2.1]; rfl, L, HO.out, by rw [HX.out.2.2]; exact HM.out⟩, HB.out⟩

end Cls
end Go.Proofs.YtbnnobeahliffaaGreatDoor
