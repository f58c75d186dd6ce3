/- The walk of 'beaglelaw13.TokenRows': it answers true; nothing that was there is turned. For the statement's proof. -/
import Derived.OpenShut
import Derived.ProofKit
import Derived.Test.YtljahelbbafhlaaDoorTkLw
import Derived.Test.YtljahelbbafhlaaDoorTkC
import Derived.Test.YtljahelbbafhlaaDoorTkD
import Derived.Test.YtljahelbbafhlaaDoorTkOpen
namespace Go.Proofs.YtljahelbbafhlaaDoor.tokenRows
open Go.ChangeShapes Go.WideShapes Go.ChangeAt Go.RowKit Cls
set_option linter.unusedVariables false

theorem bgrow {a b c : World} (h : Below a.heap.size a b) (k : Below b.heap.size b c) : Below a.heap.size a c := h.trans (k.mono h.size)

theorem lf_row {w : World} {ao : Option Addr} {n : Nat} {L : Nat → Nat → Bool} (h : Lf w ao n L) : Lf w ao n (at' ((List.range n).map L)) := by
  refine ⟨h.small, fun hn => ?_⟩
  obtain ⟨b, o, e, hb, hC⟩ := h.lies hn
  refine ⟨b, o, e, hb, fun t ht k hk => ?_⟩
  have hl : t < ((List.range n).map L).length := by simpa using ht
  have : at' ((List.range n).map L) t = L t := by rw [at_get hl]; simp
  rw [this]
  exact hC t ht k hk

/-- A token's text, whatever its classes: none where they are too many. -/
def prR (k a m : Int) (l : Nat) (Q : Nat → Nat → Bool) : Option (List Nat) := if l ≤ 64 then prI ⟨k, a, m, (List.range l).map Q⟩ else none

theorem printR_any (k a m : Int) (ao : Option Addr) (l cap : Nat) (Q : Nat → Nat → Bool) (v : World) (h : Lp v ao l Q) :
    Calls Tryd.prog 17 #[.agg #[.int .i64 k, .int .i64 a, .int .i64 m, .slice ao l cap]] v fun e w' => Rdx (prR k a m l Q) e ∧ Below v.heap.size v w' := by
  by_cases hl : l ≤ 64
  · have hQ : ((List.range l).map Q).length = l := by simp
    have hp := print13_any ⟨⟨k, a, m, (List.range l).map Q⟩, ao, cap⟩ v (by show Lf v ao ((List.range l).map Q).length _; rw [hQ]; exact lf_row (h.lf (by omega)))
    unfold Tv.val at hp
    simp only [hQ] at hp
    unfold prR
    rw [if_pos hl]
    exact hp
  · refine (print13_big k a m ao l cap (by omega) v).mono fun e w' hh => ?_
    obtain ⟨rfl, hb⟩ := hh
    refine ⟨?_, hb⟩
    unfold prR
    rw [if_neg hl]
    rfl

/-- What a text tells of its token. -/
theorem prR_some {k a m : Int} {l : Nat} {Q : Nat → Nat → Bool} {T : List Nat} (h : prR k a m l Q = some T) : l ≤ 64 ∧ prt ⟨k.toNat, 0, m.toNat, (List.range l).map Q⟩ = some T ∧ ((k.toNat : Nat) : Int) = k ∧ ((m.toNat : Nat) : Int) = m := by
  unfold prR at h
  split at h
  · rename_i hl
    unfold prI at h
    split at h
    · cases h
    · rename_i hn
      simp only at hn
      exact ⟨hl, h, by omega, by omega⟩
  · cases h

/-- Where the loop of tokens stands. -/
structure Rl (w0 wr : World) (i : Nat) (Lr : List (Nat × Tk)) (A : List Nat) (W : List Tv) (v : Value) : Prop where
  bel : Below w0.heap.size w0 wr
  own : OT wr w0.heap.size 42 v W
  row : rowt Lr = some A
  one : ∀ x ∈ Lr, 1 ≤ x.1
  wan : rowv W 0 Lr
  len : Lr.length = i
  few : A.length ≤ 160004 * i

/-- A token in its box, which lies where the world ended. -/
structure Bx (w wk : World) (k a m : Int) (ao : Option Addr) (n cap : Nat) : Prop where
  bel : Below w.heap.size w wk
  lt : w.heap.size < wk.heap.size
  c : K4 wk w.heap.size (.int .i64 k) (.int .i64 a) (.int .i64 m) (.slice ao n cap)
  f : ∀ t, wk.frozen? ⟨w.heap.size, t, none⟩ = false

theorem Bx.grow {w wk v : World} {k a m : Int} {ao : Option Addr} {n cap : Nat} (h : Bx w wk k a m ao n cap) (b : Below wk.heap.size wk v) : Bx w v k a m ao n cap :=
  ⟨bgrow h.bel b, Nat.lt_of_lt_of_le h.lt b.size, h.c.keep b, fun t => (b.frozen (p := ⟨w.heap.size, t, none⟩) h.lt).trans (h.f t)⟩

theorem Bx.put {w wk : World} {k a m : Int} {ao : Option Addr} {n cap : Nat} (h : Bx w wk k a m ao n cap) (x : Int) : Bx w (wk.setCell ⟨w.heap.size, 1, none⟩ (.int .i64 x)) k x m ao n cap := by
  have hw : Wrote (fun b t => b = w.heap.size ∧ t = 1) wk (wk.setCell ⟨w.heap.size, 1, none⟩ (.int .i64 x)) := (Wrote.refl _ wk).setCell ⟨rfl, rfl⟩ _
  obtain ⟨c0, c1, c2, c3⟩ := h.c
  refine ⟨h.bel.setCell (Nat.le_refl _) _, by rw [hw.size]; exact h.lt, ⟨?_, ?_, ?_, ?_⟩, fun t => by rw [hw.frozen]; exact h.f t⟩
  · rw [hw.cell _ _ (fun e => by omega)]; exact c0
  · first | exact World.cell?_setCell_same _ _ _ c1 | exact World.cell?_setCell_same _ _ c1 | exact World.cell?_setCell_same' _ _ _ (by rw [c1]; rfl)
  · rw [hw.cell _ _ (fun e => by omega)]; exact c2
  · rw [hw.cell _ _ (fun e => by omega)]; exact c3

theorem bx_new (w : World) (k a m : Int) (ao : Option Addr) (n cap : Nat) (T : TypeId) : Bx w (w.alloc (.cells #[.int .i64 k, .int .i64 a, .int .i64 m, .slice ao n cap] T)) k a m ao n cap := by
  have h := kb_new w (.int .i64 k) (.int .i64 a) (.int .i64 m) (.slice ao n cap) T
  exact ⟨h.bel, h.hi, k4_new _ _ _ _ _ _, h.f⟩

/-- A new row of four cells. -/
theorem new4x (w : World) (k a m : Int) (ao : Option Addr) (n cap : Nat) (T : TypeId) (j : Nat) (u : Value) (h : [Value.int .i64 k, .int .i64 a, .int .i64 m, .slice ao n cap][j]? = some u) : (w.alloc (.cells #[.int .i64 k, .int .i64 a, .int .i64 m, .slice ao n cap] T)).cell? ((⟨w.heap.size, 0, none⟩ : Addr).add j) = some u := by
  obtain ⟨c0, c1, c2, c3⟩ := k4_new w (.int .i64 k) (.int .i64 a) (.int .i64 m) (.slice ao n cap) T
  rw [add_none, Nat.zero_add]
  match j, h with
  | 0, h => exact c0.trans h
  | 1, h => exact c1.trans h
  | 2, h => exact c2.trans h
  | 3, h => exact c3.trans h

theorem plain4x (k a m : Int) (ao : Option Addr) (n cap : Nat) : ∀ u ∈ [Value.int .i64 k, .int .i64 a, .int .i64 m, .slice ao n cap], u.oneCell' = true := by
  intro u hu
  simp at hu
  rcases hu with rfl | rfl | rfl | rfl <;> rfl

/-- The wanted tokens, one more. -/
theorem row_step {w wr : World} {i : Nat} {Lr : List (Nat × Tk)} {A : List Nat} {W : List Tv} {v : Value} (h : Rl w wr i Lr A W v) {ao : Option Addr} {l : Nat} {q : Nat → Nat → Bool} (hp : Lp w ao l q) (hl : l ≤ 64) (pos k m : Int) (cap : Nat) (w5 : World) (h5 : Below wr.heap.size wr w5) :
    ∀ v' w', w'.ownsRow w.heap.size 42 4 v' (i + 1) (tkc W ++ [.int .i64 k, .int .i64 pos, .int .i64 m, .slice ao l cap]) → (w5.alloc (.cells #[.int .i64 k, .int .i64 pos, .int .i64 m, .slice ao l cap] 42)).grownBy w' v.ownBlock → (v'.ownBlock = v.ownBlock ∨ v'.ownBlock = some (w5.heap.size + 1)) → OT w' w.heap.size 42 v' (W ++ [⟨⟨k, pos, m, (List.range l).map q⟩, ao, cap⟩]) := by
  intro v' w' h1 h2 h3
  have hq : ((List.range l).map q).length = l := by simp
  have hok : (⟨⟨k, pos, m, (List.range l).map q⟩, ao, cap⟩ : Tv).ok w5 := by
    show Lf w5 ao ((List.range l).map q).length _
    rw [hq]
    exact lf_row (((hp.grow h.bel).grow h5).lf (by omega))
  have hf : (⟨⟨k, pos, m, (List.range l).map q⟩, ao, cap⟩ : Tv).four = [.int .i64 k, .int .i64 pos, .int .i64 m, .slice ao l cap] := by
    show [Value.int .i64 k, .int .i64 pos, .int .i64 m, .slice ao ((List.range l).map q).length cap] = _
    rw [hq]
  have hW : W.length = i := by rw [rowv_len h.wan, h.len]
  refine OT.step (h.own.grow h5) hok (fun hn b o e hh => ?_) (by rw [hW, hf]; exact h1) h2 (by rw [al_size]; exact h3)
  have e : ao = some ⟨b, o, none⟩ := e
  have hn : 1 ≤ l := by rw [← hq]; exact hn
  obtain ⟨b2, o2, e2, hb2, _⟩ := hp.lies hn
  rw [e] at e2
  injection e2 with e2
  injection e2 with e2 _ _
  have := h.own.lies b hh.symm
  omega

theorem Rl.more {w wr w8 : World} {i : Nat} {Lr : List (Nat × Tk)} {A : List Nat} {W : List Tv} {v v' : Value} {r : Nat} {T : List Nat} {k a m : Int} {l : Nat} {q : Nat → Nat → Bool} {ao : Option Addr} {cap : Nat} (h : Rl w wr i Lr A W v) (hT : prR k a m l q = some T) (hr : r ≤ 3) (hb : Below w.heap.size w w8) (ho : OT w8 w.heap.size 42 v' (W ++ [⟨⟨k, ((A.length + 1 + r : Nat) : Int), m, (List.range l).map q⟩, ao, cap⟩])) :
    Rl w w8 (i + 1) (Lr ++ [(1 + r, ⟨k.toNat, 0, m.toNat, (List.range l).map q⟩)]) (A ++ (List.replicate (1 + r) 32 ++ T)) (W ++ [⟨⟨k, ((A.length + 1 + r : Nat) : Int), m, (List.range l).map q⟩, ao, cap⟩]) v' := by
  obtain ⟨_, hp, hk, hm⟩ := prR_some hT
  have hl := prt_le hp
  have hf := h.few
  refine ⟨hb, ho, rowt_more (1 + r) h.row hp, fun x hx => ?_, rowv_more 0 (1 + r) h.wan h.row hp ?_, by rw [List.length_append, h.len]; rfl, ?_⟩
  · rcases List.mem_append.1 hx with hx | hx
    · exact h.one x hx
    · rw [List.mem_singleton] at hx
      subst hx
      show 1 ≤ 1 + r
      omega
  · show (⟨k, ((A.length + 1 + r : Nat) : Int), m, (List.range l).map q⟩ : Ti) = ⟨((k.toNat : Nat) : Int), ((0 + A.length + (1 + r) : Nat) : Int), ((m.toNat : Nat) : Int), (List.range l).map q⟩
    rw [hk, hm, show 0 + A.length + (1 + r) = A.length + 1 + r by omega]
  · rw [List.length_append, List.length_append, List.length_replicate]
    omega

theorem ad_first (A : List Nat) (h : A.length ≤ 5000000) : ∀ w : World, (Op.stringOp .add (tbs A) (⟨#[32]⟩ : ByteArray)).run Tryd.prog w = .ok (.string (tbs (A ++ List.replicate (1 + 0) 32))) w := fun w => by
  rw [run_string_add_sum (P := Tryd.prog) (w := w) _ _ (by rw [tbs_size]; show A.length + 1 ≤ _; omega), tbs_app]
  rfl

theorem ad_blank (A : List Nat) (h : A.length ≤ 5000000) (j : Nat) (hj : j ≤ 3) : ∀ w : World, (Op.stringOp .add (tbs (A ++ List.replicate (1 + j) 32)) (⟨#[32]⟩ : ByteArray)).run Tryd.prog w = .ok (.string (tbs (A ++ List.replicate (1 + (j + 1)) 32))) w := fun w => by
  rw [run_string_add_sum (P := Tryd.prog) (w := w) _ _ (by rw [tbs_size, List.length_append, List.length_replicate]; show A.length + (1 + j) + 1 ≤ _; omega), show List.replicate (1 + (j + 1)) 32 = List.replicate (1 + j) 32 ++ [32] by rw [show 1 + (j + 1) = (1 + j) + 1 by omega, List.replicate_succ'], ← List.append_assoc, tbs_app (A ++ List.replicate (1 + j) 32)]
  rfl

theorem ad_tok (A T : List Nat) (h : A.length ≤ 5000000) (h2 : T.length ≤ 160000) (r : Nat) (hr : r ≤ 3) : ∀ w : World, (Op.stringOp .add (tbs (A ++ List.replicate (1 + r) 32)) (tbs T)).run Tryd.prog w = .ok (.string (tbs (A ++ (List.replicate (1 + r) 32 ++ T)))) w := fun w => by
  rw [run_string_add_sum (P := Tryd.prog) (w := w) _ _ (by rw [tbs_size, tbs_size, List.length_append, List.length_replicate]; omega), ← tbs_app, List.append_assoc]

set_option maxRecDepth 100000 in
set_option maxHeartbeats 4000000 in
theorem walk (so : Option Addr) (n cap : Nat) (K A0 M : Nat → Int) (ao : Nat → Option Addr) (lc cc : Nat → Nat) (Q : Nat → Nat → Nat → Bool) (bo : Option Addr) (bn bc : Nat) (B : Nat → Int) (w : World) (hr : Tos w so n K A0 M ao lc cc Q) (hi : Ios w bo bn B) (hT : TabB w) (hX : TabX w) :
    Calls Tryd.prog 6 #[.slice so n cap, .slice bo bn bc] w fun e w' => e = .returned (.bool true) ∧ Below w.heap.size w w' := by
  obtain ⟨i0, hi0, hz0, hz1, hz2⟩ := infoR
  have HT : Hid (Tx w w) := Tx.refl hT hX
  have CA : Hid _ := fun (v : World) (hv : TabB v) (hx : TabX v) => alive_any v hv hx
  have hn9 := hr.small
  have hb9 := hi.small
  have HR : Hid _ := hr
  have HI : Hid _ := hi
  clear hT hX hr hi
  by_cases hn : n ≤ 30 ∧ bn ≤ 30
  · obtain ⟨hn1, hn2⟩ := hn
    have hnI : ¬ (30 : Int) < (n : Int) := by omega
    have hnJ : ¬ (30 : Int) < (bn : Int) := by omega
    go_enter Tryd.func6, Tryd.ntmps6
    go_wp2_with fail
    go_loopw [5, 6, 25] (fun vt v vi wr => ∃ (i : Nat) (Lr : List (Nat × Tk)) (A : List Nat) (W : List Tv), i ≤ n ∧ vi = .int .i64 (i : Int) ∧ vt = .string (tbs A) ∧ Rl w wr i Lr A W v) (fun _ _ vi _ => n - (intOf vi).toNat)
    case atStart => exact ⟨0, [], [], [], Nat.zero_le _, rfl, rfl, ⟨Below.refl _ _, ot_nil _ _ _, rfl, fun x hx => by simp at hx, trivial, rfl, by simp⟩⟩
    case round =>
      obtain ⟨i, Lr, A, W, hi, rfl, rfl, hP⟩ := hrel
      have HB : Hid (Below w.heap.size w wr) := hP.bel
      have HP : Hid _ := hP
      by_cases hin : i < n
      · have hiI : (i : Int) < (n : Int) := by omega
        obtain ⟨wo, hwo⟩ : ∃ wo, wo = wr := ⟨_, rfl⟩
        subst hwo
        obtain ⟨b, o, rfl, hlt, hC⟩ := HR.out.lies (by omega)
        obtain ⟨c0, c1, c2, c3, hlp⟩ := hC i hin
        have c0 := (HB.out.cell (p := ⟨b, o + i * 4, none⟩) hlt).trans c0
        have c1 := (HB.out.cell (p := ⟨b, o + i * 4 + 1, none⟩) hlt).trans c1
        have c2 := (HB.out.cell (p := ⟨b, o + i * 4 + 2, none⟩) hlt).trans c2
        have c3 := (HB.out.cell (p := ⟨b, o + i * 4 + 3, none⟩) hlt).trans c3
        clear hC hP
        generalize K i = xk at *
        generalize A0 i = xa at *
        generalize M i = xm at *
        generalize ao i = xo at *
        generalize lc i = l at *
        generalize cc i = xc at *
        generalize Q i = q at *
        have HLP : Hid (Lp w xo l q) := hlp
        clear hlp
        have CP : Hid (∀ v : World, Below wo.heap.size wo v → Calls Tryd.prog 17 #[.agg #[.int .i64 xk, .int .i64 xa, .int .i64 xm, .slice xo l xc]] v fun e w' => Rdx (prR xk xa xm l q) e ∧ Below v.heap.size v w') := fun v hv => printR_any xk xa xm xo l xc q v ((HLP.out.grow HB.out).grow hv)
        obtain ⟨w4, e4⟩ : ∃ w4, w4 = wo.alloc (.cells #[.int .i64 xk, .int .i64 xa, .int .i64 xm, .slice xo l xc] 42) := ⟨_, rfl⟩
        have B4 : Hid (Bx wo w4 xk xa xm xo l xc) := by show Bx _ _ _ _ _ _ _ _; rw [e4]; exact bx_new _ _ _ _ _ _ _ _
        obtain ⟨a0, a1, a2, a3⟩ := B4.out.c
        have E4 : Hid _ := e4
        have hA5 : A.length ≤ 5000000 := by have := HP.out.few; omega
        clear e4
        unfold Rdx at CP
        cases hT : prR xk xa xm l q with
        | none =>
          rw [hT] at CP
          simp only [Option.getD_none, Option.isSome_none] at CP
          generalize tbs [] = tn at *
          clear hT HP HI
          generalize tbs A = ta at *
          go_wp2_with (first | rw [← E4.out])
          refine Calls.mono (CP.out w4 B4.out.bel) ?_; rintro e w5 ⟨rfl, b5⟩
          have T5 : Hid (Tx w w5) := HT.out.grow (bgrow (bgrow HB.out B4.out.bel) b5)
          clear b5 CP E4 B4 a0 a1 a2 a3 c0 c1 c2 c3 HB HT
          go_wp2_with fail
          refine Calls.mono (CA.out w5 T5.out.tab T5.out.tx) ?_; rintro e w6 ⟨rfl, b6⟩
          have T6 : Hid (Tx w w6) := T5.out.grow b6
          clear b6 CA
          go_wp2_with fail
          go_ret
          exact ⟨rfl, T6.out.bel⟩
        | some T =>
          obtain ⟨hl64, hp, hk, hm⟩ := prR_some hT
          have hT9 := prt_le hp
          have hlI : ¬ (100 : Int) < (l : Int) := by omega
          clear hp hk hm
          rw [hT] at CP
          simp only [Option.getD_some, Option.isSome_some] at CP
          have AD1 := ad_first A hA5
          have HA2 : Hid _ := fun (j : Nat) (hj : j ≤ 3) => ad_blank A hA5 j hj
          have HA3 : Hid _ := fun (r : Nat) (hr : r ≤ 3) => ad_tok A T hA5 hT9 r hr
          obtain ⟨tx, htx⟩ : ∃ tx : Nat → ByteArray, ∀ j, tbs (A ++ List.replicate (1 + j) 32) = tx j := ⟨_, fun j => rfl⟩
          have HSZ : Hid (∀ r, ((tx r).size : Int) = ((A.length + 1 + r : Nat) : Int)) := fun r => by rw [← htx r, tbs_size, List.length_append, List.length_replicate]; omega
          have htx0 := htx 0
          rw [htx0] at AD1
          simp only [htx] at HA2 HA3
          obtain ⟨tz, htz⟩ : ∃ tz : Nat → ByteArray, ∀ r, tbs (A ++ (List.replicate (1 + r) 32 ++ T)) = tz r := ⟨_, fun r => rfl⟩
          have HTZ : Hid (∀ r, tz r = tbs (A ++ (List.replicate (1 + r) 32 ++ T))) := fun r => (htz r).symm
          simp only [htz] at HA3
          generalize tbs T = tt at *
          generalize tbs A = ta at *
          clear htx htx0 htz hT9 hA5
          go_wp2_with (first | rw [← E4.out])
          refine Calls.mono (CP.out w4 B4.out.bel) ?_; rintro e w5 ⟨rfl, b5⟩
          have B5 : Hid (Bx wo w5 xk xa xm xo l xc) := B4.out.grow b5
          clear b5 CP E4 B4 a0 a1 a2 a3 c0 c1 c2 c3
          obtain ⟨a0, a1, a2, a3⟩ := B5.out.c
          by_cases hib : i < bn
          · have hibI : (i : Int) < (bn : Int) := by omega
            obtain ⟨ib, io, rfl, hilt, hIC⟩ := HI.out.lies (by omega)
            obtain ⟨d0, _⟩ := hIC i hib
            have d0 := ((bgrow HB.out B5.out.bel).cell (p := ⟨ib, io + i, none⟩) hilt).trans d0
            obtain ⟨r, hr, hand⟩ := and3 (B i)
            clear hIC
            generalize B i = xb at *
            go_wp2_with fail
            go_loopw [5, 55] (fun vt vj wk => Below w5.heap.size w5 wk ∧ ∃ j : Nat, j ≤ r ∧ vj = .int .i64 (j : Int) ∧ vt = .string (tx j)) (fun _ vj _ => r - (intOf vj).toNat)
            case atStart => exact ⟨Below.refl _ _, 0, Nat.zero_le _, rfl, rfl⟩
            case round =>
              obtain ⟨hbel, j, hj, rfl, rfl⟩ := hrel
              have B6 : Hid (Bx wo wr xk xa xm xo l xc) := B5.out.grow hbel
              by_cases hjr : j < r
              · have hjI : (j : Int) < (r : Int) := by omega
                have AD2 := HA2.out j (by omega)
                have HBJ : Hid _ := hbel
                clear hbel a0 a1 a2 a3 d0
                go_wp2_with fail
                go_roundw
                case rel => exact ⟨HBJ.out, j + 1, by omega, by go_num, rfl⟩
                case measure => simp [intOf]; omega
              · obtain rfl : j = r := by omega
                clear hbel a0 a1 a2 a3 d0
                have AD3 := HA3.out j hr
                have HSR := HSZ.out j
                have HTR : Hid _ := HTZ.out j
                have HRS : Hid _ := fun (v8 : World) (y8 : Value) (hb8 : Below w.heap.size w v8) (ho8 : OT v8 w.heap.size 42 y8 (W ++ [⟨⟨xk, ((A.length + 1 + j : Nat) : Int), xm, (List.range l).map q⟩, xo, xc⟩])) => Rl.more (r := j) HP.out hT hr hb8 ho8
                rw [← HSR] at HRS
                obtain ⟨a0, a1, a2, a3⟩ := B6.out.c
                have f1 := B6.out.f 1
                obtain ⟨w7, e7⟩ : ∃ w7, w7 = wr.setCell ⟨wo.heap.size, 1, none⟩ (.int .i64 ((tx j).size : Int)) := ⟨_, rfl⟩
                have B7 : Hid (Bx wo w7 xk ((tx j).size : Int) xm xo l xc) := by show Bx _ _ _ _ _ _ _ _; rw [e7]; exact B6.out.put _
                have E7 : Hid _ := e7
                clear e7 HSR
                generalize tx j = ty at *
                generalize tz j = tz at *
                have HST : Hid _ := row_step HP.out HLP.out hl64 ((ty.size : Nat) : Int) xk xm xc w7 B7.out.bel
                have HO7 : Hid (w7.ownsRow w.heap.size 42 4 u6 i (tkc W)) := by
                  have := (HP.out.own.grow B7.out.bel).own
                  rw [rowv_len HP.out.wan, HP.out.len] at this
                  exact this
                have HB7 : Hid (Below w.heap.size w w7) := bgrow HB.out B7.out.bel
                have hsz : w.heap.size ≤ w7.heap.size := HB7.out.size
                obtain ⟨g0, g1, g2, g3⟩ := B7.out.c
                clear HA3 HA2 HSZ HTZ B6 B7 HB HI HT CA HLP HP hT hl64
                go_wp2_with (first | rw [← E7.out] | (at_builtin; refine wpList_append_own_at _ rfl _ _ 27 rfl w.heap.size 42 i0 (.agg #[.int .i64 0, .int .i64 0, .int .i64 0, .slice none 0 0]) 4 48 Tryd.underlying27 hi0 hz0 hz1 hz2 rfl (by decide) _ _ _ rfl (HO7.out.alloc _) ⟨w7.heap.size, 0, none⟩ 1 1 [.int .i64 xk, .int .i64 (ty.size : Int), .int .i64 xm, .slice xo l xc] rfl rfl ?c1 ?c2 ?c3 ?c4 ?c5 ?_))
                case c1 => exact new4x w7 _ _ _ _ _ _ _
                case c2 => exact plain4x _ _ _ _ _ _
                case c3 => unfold maxLen; omega
                case c4 => omega
                case c5 => first | omega | (simp; omega) | (show _ ≤ (w7.heap.push _).size; simp; omega)
                · intro v' w8 hown' hgrow _ hat
                  have HR8 : Hid (Below w.heap.size w w8) := grow_below hsz HB7.out HO7.out hgrow
                  have HR9 : Hid _ := HRS.out w8 v' HR8.out (HST.out v' w8 hown' hgrow hat)
                  clear hown' hgrow HO7 HB7 E7 hat HST HRS a0 a1 a2 a3 g0 g1 g2 g3 f1
                  go_wp2_with fail
                  go_roundw
                  case rel => exact ⟨i + 1, _, _, _, by omega, by go_num, by rw [HTR.out], HR9.out⟩
                  case measure => simp [intOf]; omega
          · have hibI : ¬ (i : Int) < (bn : Int) := by omega
            clear a0 a1 a2 a3
            have AD3 := HA3.out 0 (by omega)
            have HSR := HSZ.out 0
            have HTR : Hid _ := HTZ.out 0
            have HRS : Hid _ := fun (v8 : World) (y8 : Value) (hb8 : Below w.heap.size w v8) (ho8 : OT v8 w.heap.size 42 y8 (W ++ [⟨⟨xk, ((A.length + 1 + 0 : Nat) : Int), xm, (List.range l).map q⟩, xo, xc⟩])) => Rl.more (r := 0) HP.out hT (by omega) hb8 ho8
            rw [← HSR] at HRS
            obtain ⟨a0, a1, a2, a3⟩ := B5.out.c
            have f1 := B5.out.f 1
            obtain ⟨w7, e7⟩ : ∃ w7, w7 = w5.setCell ⟨wo.heap.size, 1, none⟩ (.int .i64 ((tx 0).size : Int)) := ⟨_, rfl⟩
            have B7 : Hid (Bx wo w7 xk ((tx 0).size : Int) xm xo l xc) := by show Bx _ _ _ _ _ _ _ _; rw [e7]; exact B5.out.put _
            have E7 : Hid _ := e7
            clear e7 HSR
            generalize tx 0 = ty at *
            generalize tz 0 = tz at *
            have HST : Hid _ := row_step HP.out HLP.out hl64 ((ty.size : Nat) : Int) xk xm xc w7 B7.out.bel
            have HO7 : Hid (w7.ownsRow w.heap.size 42 4 u6 i (tkc W)) := by
              have := (HP.out.own.grow B7.out.bel).own
              rw [rowv_len HP.out.wan, HP.out.len] at this
              exact this
            have HB7 : Hid (Below w.heap.size w w7) := bgrow HB.out B7.out.bel
            have hsz : w.heap.size ≤ w7.heap.size := HB7.out.size
            obtain ⟨g0, g1, g2, g3⟩ := B7.out.c
            clear HA3 HA2 HSZ HTZ B5 B7 HB HI HT CA HLP HP hT hl64
            go_wp2_with (first | rw [← E7.out] | (at_builtin; refine wpList_append_own_at _ rfl _ _ 27 rfl w.heap.size 42 i0 (.agg #[.int .i64 0, .int .i64 0, .int .i64 0, .slice none 0 0]) 4 48 Tryd.underlying27 hi0 hz0 hz1 hz2 rfl (by decide) _ _ _ rfl (HO7.out.alloc _) ⟨w7.heap.size, 0, none⟩ 1 1 [.int .i64 xk, .int .i64 (ty.size : Int), .int .i64 xm, .slice xo l xc] rfl rfl ?c1 ?c2 ?c3 ?c4 ?c5 ?_))
            case c1 => exact new4x w7 _ _ _ _ _ _ _
            case c2 => exact plain4x _ _ _ _ _ _
            case c3 => unfold maxLen; omega
            case c4 => omega
            case c5 => first | omega | (simp; omega) | (show _ ≤ (w7.heap.push _).size; simp; omega)
            · intro v' w8 hown' hgrow _ hat
              have HR8 : Hid (Below w.heap.size w w8) := grow_below hsz HB7.out HO7.out hgrow
              have HR9 : Hid _ := HRS.out w8 v' HR8.out (HST.out v' w8 hown' hgrow hat)
              clear hown' hgrow HO7 HB7 E7 hat HST HRS a0 a1 a2 a3 g0 g1 g2 g3 f1
              go_wp2_with fail
              go_roundw
              case rel => exact ⟨i + 1, _, _, _, by omega, by go_num, by rw [HTR.out], HR9.out⟩
              case measure => simp [intOf]; omega
      · obtain rfl : i = n := by omega
        obtain ⟨qo, qc, rfl, hq⟩ := HP.out.own.tr (by have := rowv_len HP.out.wan; have := HP.out.len; omega)
        have hWl : W.length = i := by rw [rowv_len HP.out.wan, HP.out.len]
        have TW : Hid (TR wr qo W) := hq
        have HW : Hid (W.length = i) := hWl
        have hA9 := HP.out.few
        have hsz : (tbs A).size = A.length := tbs_size _
        have T5 : Hid (Tx w wr) := HT.out.grow HB.out
        rw [hWl]
        clear hq hWl
        by_cases h9 : A.length ≤ 1000
        · have C3 : Hid (∀ v : World, Calls Tryd.prog 10 #[.string (tbs A)] v fun e w' => (∃ mo mc N p, e = .returned (.tuple #[.slice mo i mc, .int .i64 p, .int .i64 0]) ∧ TR w' mo N ∧ N.length = i ∧ Alks N W) ∧ Below v.heap.size v w') := fun v => by
            obtain ⟨g1, g2⟩ := lex_rows HP.out.row HP.out.one h9
            refine (lex_any (tbs A) (by omega) v).mono fun e w' hh => ?_
            obtain ⟨⟨v1, N, rfl, ho, hm⟩, hb⟩ := hh
            have hal := rows_alike g2 HP.out.wan hm
            have hN : N.length = i := by have := hal.len; have := HW.out; omega
            obtain ⟨mo, mc, rfl, ht⟩ := ho.tr (by omega)
            rw [hN, g1]
            exact ⟨⟨mo, mc, N, _, rfl, ht, hN, hal⟩, hb⟩
          have h9I : ¬ (1000 : Int) < ((tbs A).size : Int) := by omega
          generalize tbs A = ty at *
          clear HT HB
          go_wp2_with fail
          refine Calls.mono (C3.out wr) ?_; rintro e w2 ⟨⟨mo, mc, N, q, rfl, hm, hml, hal⟩, b2⟩
          have T2 : Hid (Tx w w2) := T5.out.grow b2
          have TM2 : Hid (TR w2 mo N) := hm
          have TW2 : Hid (TR w2 qo W) := TW.out.grow b2
          have HML : Hid (N.length = i) := hml
          have HAL : Hid (Alks N W) := hal
          clear b2 C3 hm hml hal T5 TW
          go_wp2_with fail
          refine Calls.mono (CA.out w2 T2.out.tab T2.out.tx) ?_; rintro e w3 ⟨rfl, b3⟩
          have T3 : Hid (Tx w w3) := T2.out.grow b3
          have TM3 : Hid (TR w3 mo N) := TM2.out.grow b3
          have TW3 : Hid (TR w3 qo W) := TW2.out.grow b3
          clear b3 T2 TM2 TW2
          go_wp2_with fail
          refine Calls.mono (olds_any i mo mc N w3 HML.out (by omega) TM3.out) ?_; rintro e w4 ⟨⟨v4, rfl, ho⟩, b4⟩
          obtain ⟨ro, rc, rfl, ht⟩ := ho.tr (by have := HML.out; omega)
          have T4 : Hid (Tx w w4) := T3.out.grow b4
          have TW4 : Hid (TR w4 qo W) := TW3.out.grow b4
          have TR4 : Hid (TR w4 ro N) := ht
          rw [HML.out]
          clear b4 T3 TM3 TW3 ho ht
          go_wp2_with fail
          refine Calls.mono (same13_any i ro qo rc qc N W w4 HML.out TR4.out TW4.out HAL.out) ?_; rintro e w5 ⟨rfl, b5⟩
          have T6 : Hid (Tx w w5) := T4.out.grow b5
          clear b5 T4 TR4 TW4
          go_wp2_with fail
          go_ret
          exact ⟨rfl, T6.out.bel⟩
        · have h9I : (1000 : Int) < ((tbs A).size : Int) := by omega
          generalize tbs A = ty at *
          go_wp2_with fail
          refine Calls.mono (CA.out wr T5.out.tab T5.out.tx) ?_; rintro e w5 ⟨rfl, b5⟩
          have T6 : Hid (Tx w w5) := T5.out.grow b5
          clear b5 CA
          go_wp2_with fail
          go_ret
          exact ⟨rfl, T6.out.bel⟩
  · have hb : (30 : Int) < (n : Int) ∨ (¬ (30 : Int) < (n : Int) ∧ (30 : Int) < (bn : Int)) := by omega
    clear hn
    rcases hb with hnI | ⟨hnI, hnJ⟩
    all_goals
      go_enter Tryd.func6, Tryd.ntmps6
      go_wp2_with fail
      refine Calls.mono (CA.out w HT.out.tab HT.out.tx) ?_; rintro e w1 ⟨rfl, b1⟩
      have T1 : Hid (Tx w w1) := Tx.grow HT.out b1
      clear b1 HT CA
      go_wp2_with fail
      go_ret
      exact ⟨rfl, T1.out.bel⟩

end Go.Proofs.YtljahelbbafhlaaDoor.tokenRows
