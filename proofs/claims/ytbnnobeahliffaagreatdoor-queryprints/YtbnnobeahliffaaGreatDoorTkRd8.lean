/- Contract of token.Lex. (Written by mktk7.py.) -/
import Derived.Test.YtbnnobeahliffaaGreatDoorTkRd7
import Derived.Test.YtbnnobeahliffaaGreatDoorTkHead
set_option linter.unusedVariables false
namespace Go.Proofs.YtbnnobeahliffaaGreatDoor
open Go.RowKit
namespace Cls

/-- Where a text's tokens end, or err; the error; the tokens. -/
def lpl (s : ByteArray) : Nat := match lex1 s with | .ok _ => s.size | .error e => e.1

def lcd (s : ByteArray) : Nat := match lex1 s with | .ok _ => 0 | .error e => e.2

def lls (s : ByteArray) : List Tk := match lex1 s with | .ok l => l | .error _ => []

theorem lex_ok {s : ByteArray} {l : List Tk} (h : lex1 s = .ok l) : lpl s = s.size ∧ lcd s = 0 ∧ lls s = l := by
  unfold lpl lcd lls
  rw [h]
  exact ⟨rfl, rfl, rfl⟩

theorem lex_err {s : ByteArray} {p c : Nat} (h : lex1 s = .error (p, c)) : lpl s = p ∧ lcd s = c ∧ lls s = [] := by
  unfold lpl lcd lls
  rw [h]
  exact ⟨rfl, rfl, rfl⟩

theorem lxl_step (s : ByteArray) (f q : Nat) (out : List Tk) : lxl s (f + 1) q out =
    if s.size ≤ q then .ok out
    else if byt s q = 32 then lxl s f (q + 1) out
    else match tok1 s q with
      | .error e => .error e
      | .ok (t, n) => lxl s f n (out ++ [t]) := by
  rw [lxl]
  cases tok1 s q <;> rfl

theorem rcd_code0 {s : ByteArray} {q p c : Nat} (hs : q < s.size) (h : tok1 s q = .error (p, c)) : c ≠ 0 := by
  unfold tok1 at h
  split at h
  · split at h
    · rename_i e1
      simp only [Except.error.injEq] at h
      subst h
      exact ptl_code0 _ _ _ _ _ (by omega) (by omega) e1
    · cases h
  split at h
  · simp only [Except.error.injEq, Prod.mk.injEq] at h; omega
  split at h
  · cases h
  · split at h
    · rename_i e1
      simp only [Except.error.injEq] at h
      subst h
      have := nmb_code e1
      omega
    · cases h
 where
  ptl_code0 {s : ByteArray} : ∀ (fuel q : Nat) (out : List (Nat → Bool)) (p c : Nat), s.size + 1 ≤ fuel + q → q ≤ s.size → ptl s fuel q out = .error (p, c) → c ≠ 0
    | 0, q, _, p, c, hf, hq, h => by omega
    | fuel + 1, q, out, p, c, hf, hq, h => by
      rw [ptl_step] at h
      split at h
      · simp only [Except.error.injEq, Prod.mk.injEq] at h; omega
      split at h
      · split at h
        · simp only [Except.error.injEq, Prod.mk.injEq] at h; omega
        · cases h
      split at h
      · simp only [Except.error.injEq, Prod.mk.injEq] at h; omega
      split at h
      · rename_i e1
        simp only [Except.error.injEq] at h
        subst h
        exact elm_code0 e1
      · rename_i c2 n e1
        have := elm_next (by omega) e1
        exact ptl_code0 fuel n _ p c (by omega) (by omega) h

theorem infoT : ∃ i, Tryz.prog.info? 76 = some i ∧ i.zero = some (.agg #[.int .i64 0, .int .i64 0, .int .i64 0, .slice none 0 0]) ∧ i.size = 4 ∧ i.bytes = 48 := by
  have h : (Tryz.prog.info? 76).map (fun i => (i.zero, i.size, i.bytes)) = some (some (.agg #[.int .i64 0, .int .i64 0, .int .i64 0, .slice none 0 0]), 4, 48) := by kernel_rfl
  obtain ⟨i, hi, hz⟩ := Option.map_eq_some_iff.1 h
  simp only [Prod.mk.injEq] at hz
  exact ⟨i, hi, hz.1, hz.2.1, hz.2.2⟩

/-- Where the loop of tokens stands. -/
structure Lx1 (w wr : World) (s : ByteArray) (q fuel : Nat) (out : List Tk) (L : List Tv) (v : Value) : Prop where
  bel : Below w.heap.size w wr
  own : OT wr w.heap.size 76 v L
  is : L.map Tv.i = out.map Tk.i
  hi : q ≤ s.size
  fu : s.size + 1 ≤ fuel + q
  few : L.length + fuel ≤ s.size + 1
  eq : lxl s (s.size + 1) 0 [] = lxl s fuel q out

set_option maxRecDepth 100000 in
set_option maxHeartbeats 4000000 in
theorem lex_any (s : ByteArray) (hs : s.size ≤ 1000000) (w : World) :
    Calls Tryz.prog 18 #[.string s] w fun e w' => (∃ v L, e = .returned (.tuple #[v, .int .i64 (lpl s : Nat), .int .i64 (lcd s : Nat)]) ∧ OT w' w.heap.size 76 v L ∧ L.map Tv.i = (lls s).map Tk.i) ∧ Below w.heap.size w w' := by
  obtain ⟨i0, hi0, hz0, hz1, hz2⟩ := infoT
  by_cases hbig : 1000 < s.size
  · have hx := lex_err (show lex1 s = .error (1000, 135) by unfold lex1; rw [if_pos hbig])
    have hbI : (1000 : Int) < (s.size : Int) := by omega
    have HX : Hid _ := hx
    clear hx
    go_enter Tryz.func18, Tryz.ntmps18
    go_wp2_with fail
    go_step3
    go_wp2_with fail
    try simp only [Exit.noGoto]
    refine bodyPost_ret (results_tmp3 rfl _ _ _) rfl ?_
    exact ⟨⟨.slice none 0 0, [], by rw [HX.out.1, HX.out.2.1]; rfl, ot_nil _ _ _, by rw [HX.out.2.2]; rfl⟩, Below.refl _ _⟩
  · have hbI : ¬ (1000 : Int) < (s.size : Int) := by omega
    have hlex : lex1 s = lxl s (s.size + 1) 0 [] := by unfold lex1; rw [if_neg hbig]
    go_enter Tryz.func18, Tryz.ntmps18
    go_wp2_with fail
    refine wp_scope_once 0 (fun a' wr => ∃ (q fuel : Nat) (out : List Tk) (L : List Tv) (v : Value) (u7 u8 u9 u10 u11 u12 u13 u14 u15 u16 u17 u18 u19 u20 u21 u22 u23 u24 u25 u26 u27 u28 u29 u30 u31 u32 u33 u34 u35 u36 u37 u38 u39 u40 : Value), a' = { tmps := #[.string s, undef, .slice none 0 0, .int .i64 0, .int .i64 0, v, .int .i64 (q : Int), u7, u8, u9, u10, u11, u12, u13, u14, u15, u16, u17, u18, u19, u20, u21, u22, u23, u24, u25, u26, u27, u28, u29, u30, u31, u32, u33, u34, u35, u36, u37, u38, u39, u40], defers := [] } ∧ Lx1 w wr s q fuel out L v) (fun a' _ => s.size - (intAt' (a'.tmps.getD 6 undef)).toNat) rfl ?_ ?_
    · rintro a' wr ⟨q, fuel, out, L, v, u7, u8, u9, u10, u11, u12, u13, u14, u15, u16, u17, u18, u19, u20, u21, u22, u23, u24, u25, u26, u27, u28, u29, u30, u31, u32, u33, u34, u35, u36, u37, u38, u39, u40, rfl, hP⟩
      have HB : Hid (Below w.heap.size w wr) := hP.bel
      have HO : Hid (OT wr w.heap.size 76 v L) := hP.own
      have HM : Hid (L.map Tv.i = out.map Tk.i) := hP.is
      have hhi := hP.hi
      obtain ⟨f', rfl⟩ : ∃ f', fuel = f' + 1 := ⟨fuel - 1, by have := hP.fu; omega⟩
      have hfu := hP.fu
      have hfew := hP.few
      have heq := hP.eq
      rw [lxl_step s f' q out] at heq
      clear hP
      have hwq : IntKind.i64.wrap ((q : Int) + 1) = (q : Int) + 1 := by rw [IntKind.wrap_i64]; omega
      by_cases hq : q < s.size
      · rw [if_neg (by omega)] at heq
        have hqI : ((q : Int) == (s.size : Int)) = false := beq_eq_false_iff_ne.2 (by omega)
        by_cases h32 : byt s q = 32
        · rw [if_pos h32] at heq
          have hi : ∀ w, (Instr.index 9 (.string s) (.int .i64 (q : Int))).run Tryz.prog w = .ok (.int .u8 32) w := fun w => by rw [idx_str s q hq w, h32]; rfl
          have HQ : Hid _ := heq
          clear heq
          go_wp2_with fail
          go_step3
          obtain ⟨q2, hq2⟩ : ∃ q2, q2 = q + 1 := ⟨_, rfl⟩
          have hc : (q : Int) + 1 = (q2 : Int) := by omega
          refine ⟨rfl, ?_, ?_⟩
          · rw [hc]
            exact ⟨q2, f', out, L, v, _, _, _, _, _, _, _, _, _, _, _, _, _, _, _, _, _, _, _, _, _, _, _, _, _, _, _, _, _, _, _, _, _, _, rfl, ⟨HB.out, HO.out, HM.out, by omega, by omega, by omega, by rw [hq2]; exact HQ.out⟩⟩
          · show s.size - ((q : Int) + 1).toNat < s.size - ((q : Int)).toNat
            omega
        · rw [if_neg h32] at heq
          have hi : ∀ w, (Instr.index 9 (.string s) (.int .i64 (q : Int))).run Tryz.prog w = .ok (.int .u8 ((byt s q : Nat) : Int)) w := fun w => idx_str s q hq w
          have h32I : ((((byt s q : Nat) : Int)) == 32) = false := beq_eq_false_iff_ne.2 (by omega)
          have CE : Hid _ := fun (v : World) => token_any s q hs hq v
          cases hr : tok1 s q with
          | error r =>
            obtain ⟨p, c⟩ := r
            have hc : ((c : Int) != 0) = true := by
              have := rcd_code0 hq hr
              have h2 : ¬ (c : Int) = 0 := by omega
              simpa using h2
            rw [hr] at CE heq
            simp only at heq
            have HX : Hid _ := lex_err (hlex.trans heq)
            clear heq hr hlex
            generalize byt s q = y at hi h32I h32
            go_wp2_with fail
            refine Calls.mono (CE.out wr) ?_; rintro e w3 ⟨⟨x, rfl, _, hxo, _⟩, b3⟩
            obtain ⟨w4, e4⟩ : ∃ w4, w4 = w3.alloc (.cells #[.int .i64 x.i.kind, .int .i64 x.i.at', .int .i64 x.i.n, .slice x.ao x.i.p.length x.cap] 76) := ⟨_, rfl⟩
            have HB4 : Hid (Below w.heap.size w w4) := by show Below _ _ _; rw [e4]; exact (HB.out.trans (b3.mono HB.out.size)).alloc (Nat.le_trans HB.out.size b3.size) _
            have E4 : Hid _ := e4
            clear e4 b3 HO HB hxo
            unfold Tv.val
            simp only [show rpl (.error (p, c) : Rd Tk) = p from rfl, show rcd (.error (p, c) : Rd Tk) = c from rfl]
            obtain ⟨⟨xk, xa, xn, xp⟩, xo, xc⟩ := x
            simp only at *
            generalize xp.length = xl at *
            go_wp2_with (first | rw [← E4.out])
            try simp only [Exit.jump]
            refine bodyPost_ret (results_tmp3 rfl _ _ _) rfl ?_
            exact ⟨⟨.slice none 0 0, [], by rw [HX.out.1, HX.out.2.1]; rfl, ot_nil _ _ _, by rw [HX.out.2.2]; rfl⟩, HB4.out⟩
          | ok r =>
            obtain ⟨t, n⟩ := r
            obtain ⟨n1, n2, _⟩ := tok1_next hq hr
            rw [hr] at CE heq
            simp only at heq
            have HQ : Hid _ := heq
            clear heq hr
            generalize byt s q = y at hi h32I h32
            go_wp2_with fail
            refine Calls.mono (CE.out wr) ?_; rintro e w3 ⟨⟨x, rfl, hxi, hxo, hxn⟩, b3⟩
            have HXI : Hid (x.i = t.i) := hxi t n rfl
            obtain ⟨w4, e4⟩ : ∃ w4, w4 = w3.alloc (.cells #[.int .i64 x.i.kind, .int .i64 x.i.at', .int .i64 x.i.n, .slice x.ao x.i.p.length x.cap] 76) := ⟨_, rfl⟩
            have b34 : Below w3.heap.size w3 w4 := by rw [e4]; exact al_below _ _
            have B4 : Below w.heap.size w w4 := HB.out.trans ((b3.trans (b34.mono b3.size)).mono HB.out.size)
            have O4 : Hid (OT w4 w.heap.size 76 v L) := (HO.out.grow b3).grow b34
            have X4 : Hid (x.ok w4) := hxo.grow b34
            have A4 : Hid (1 ≤ x.i.p.length → ∀ b o, x.ao = some ⟨b, o, none⟩ → some b ≠ v.ownBlock) := apart_new (w' := w4) HO.out hxn
            have q4 : K4 w4 w3.heap.size (.int .i64 x.i.kind) (.int .i64 x.i.at') (.int .i64 x.i.n) (.slice x.ao x.i.p.length x.cap) := by rw [e4]; exact k4_new _ _ _ _ _ _
            have HB4 : Hid (Below w.heap.size w w4) := B4
            have E4 : Hid _ := e4
            have hsz : w.heap.size ≤ w4.heap.size := B4.size
            have O5 : w4.ownsRow w.heap.size 76 4 v L.length (tkc L) := O4.out.own
            obtain ⟨c0, c1, c2, c3⟩ := q4
            have NW : Hid (∀ j u, x.four[j]? = some u → (w4.alloc (.cells #[.int .i64 x.i.kind, .int .i64 x.i.at', .int .i64 x.i.n, .slice x.ao x.i.p.length x.cap] 76)).cell? ((⟨w4.heap.size, 0, none⟩ : Addr).add j) = some u) := fun j u h => new4t w4 x 76 j u h
            have PL : Hid (∀ u ∈ x.four, u.oneCell' = true) := plain4t x
            have HST : Hid (∀ v' w', w'.ownsRow w.heap.size 76 4 v' (L.length + 1) (tkc L ++ x.four) → (w4.alloc (.cells #[.int .i64 x.i.kind, .int .i64 x.i.at', .int .i64 x.i.n, .slice x.ao x.i.p.length x.cap] 76)).grownBy w' v.ownBlock → (v'.ownBlock = v.ownBlock ∨ v'.ownBlock = some (w4.heap.size + 1)) → OT w' w.heap.size 76 v' (L ++ [x])) := fun v' w' h1 h2 h3 => O4.out.step X4.out A4.out h1 h2 (by rw [al_size]; exact h3)
            have HMX : Hid ((L ++ [x]).map Tv.i = (out ++ [t]).map Tk.i) := by show _ = _; rw [List.map_append, List.map_append, HM.out]; simp [HXI.out]
            clear e4 b34 b3 B4 HB HO hxi hxo hxn A4 X4 HM
            unfold Tv.four at NW PL HST
            unfold Tv.val
            simp only [show rpl (.ok (t, n) : Rd Tk) = n from rfl, show rcd (.ok (t, n) : Rd Tk) = 0 from rfl]
            generalize x.i.kind = xk at *
            generalize x.i.at' = xa at *
            generalize x.i.n = xn at *
            generalize x.i.p.length = xl at *
            generalize x.ao = xo at *
            generalize x.cap = xc at *
            have hfl : L.length + 1 ≤ 1000000 := by omega
            go_wp2_with (first | rw [← E4.out] | (at_builtin; refine wpList_append_own_at _ rfl _ _ 41 rfl w.heap.size 76 i0 (.agg #[.int .i64 0, .int .i64 0, .int .i64 0, .slice none 0 0]) 4 48 Tryz.underlying41 hi0 hz0 hz1 hz2 rfl (by decide) _ _ _ rfl (O5.alloc _) ⟨w4.heap.size, 0, none⟩ 1 1 [.int .i64 xk, .int .i64 xa, .int .i64 xn, .slice xo xl xc] rfl rfl ?c1 ?c2 ?c3 ?c4 ?c5 ?_))
            case c1 => exact NW.out
            case c2 => exact PL.out
            case c3 => unfold maxLen; omega
            case c4 => omega
            case c5 => first | omega | (simp; omega) | (show _ ≤ (w4.heap.push _).size; simp; omega)
            · intro v' w5 hown' hgrow _ hat
              have HR : Hid (Below w.heap.size w w5) := grow_below hsz HB4.out O5 hgrow
              have HO5 : Hid (OT w5 w.heap.size 76 v' (L ++ [x])) := HST.out v' w5 hown' hgrow hat
              clear hown' hgrow O5 HB4 E4 c0 c1 c2 c3 hat HST NW PL
              go_wp2_with fail
              go_step3
              refine ⟨rfl, ⟨n, f', out ++ [t], L ++ [x], v', _, _, _, _, _, _, _, _, _, _, _, _, _, _, _, _, _, _, _, _, _, _, _, _, _, _, _, _, _, _, _, _, _, _, rfl, ⟨HR.out, HO5.out, HMX.out, n2, by omega, by rw [List.length_append, List.length_singleton]; omega, HQ.out⟩⟩, ?_⟩
              show s.size - ((n : Int)).toNat < s.size - ((q : Int)).toNat
              omega
      · obtain rfl : q = s.size := by omega
        rw [if_pos (Nat.le_refl _)] at heq
        have HX : Hid _ := lex_ok (hlex.trans heq)
        clear heq hlex
        go_wp2_with fail
        try simp only [Exit.jump]
        refine bodyPost_ret (results_tmp3 rfl _ _ _) rfl ?_
        exact ⟨⟨v, L, by rw [HX.out.1, HX.out.2.1]; rfl, HO.out, by rw [HX.out.2.2]; exact HM.out⟩, HB.out⟩
    · intro K
      have HK : Hid _ := K
      clear K hlex
      go_wp2_with fail
      go_step3
      go_step
      go_step
      exact HK.out _ _ ⟨0, s.size + 1, [], [], _, _, _, _, _, _, _, _, _, _, _, _, _, _, _, _, _, _, _, _, _, _, _, _, _, _, _, _, _, _, _, _, _, _, _, rfl, ⟨Below.refl _ _, ot_nil _ _ _, rfl, by omega, by omega, by simp, rfl⟩⟩

end Cls
end Go.Proofs.YtbnnobeahliffaaGreatDoor
