/- Contract of beagleref13.Element: a class's text. (Written by mktk11.py.) Contracts of beagleref13.Digits and Print. (Written by mktk13.py.) Contracts of beagleref14.bracket, Text, Print. (Written by mkqy3.py.) Contracts of beagleref14.Parse, Print. (Written by mkqy6.py.) Queries: trees that are alike: their rows, depths, texts; a right row's text is parsed as a row that is the same: plain. Queries: what is read hangs not on what follows; tokens' places do not matter; joins, brackets: plain. Queries: where a text is amiss; the law's own query: plain. Contracts of beagleref14.Print, Longest. (Written by mkqy7.py.) Tokens: a text within another one is read as it is alone: plain. Queries: two texts with a sign between, a text between brackets: parsed: plain. Contracts of token.right and token.Print. (Written by mktk12.py.) -/
import Derived.Test.YtbnnobeahliffaaGreatDoorTkWr3
import Derived.Test.YtbnnobeahliffaaGreatDoorClsA
import Derived.Test.YtbnnobeahliffaaGreatDoorClsB
import Derived.Test.YtbnnobeahliffaaGreatDoorTkPr1
import Derived.Test.YtbnnobeahliffaaGreatDoorTkWro
import Derived.Test.YtbnnobeahliffaaGreatDoorQyA
import Derived.Test.YtbnnobeahliffaaGreatDoorTkC

set_option linter.unusedVariables false
namespace Go.Proofs.YtbnnobeahliffaaGreatDoor
open Go.RowKit
namespace Cls

end Cls

end Go.Proofs.YtbnnobeahliffaaGreatDoor

set_option linter.unusedVariables false
namespace Go.Proofs.YtbnnobeahliffaaGreatDoor
open Go.RowKit
namespace Cls

end Cls

end Go.Proofs.YtbnnobeahliffaaGreatDoor

set_option linter.unusedVariables false
namespace Go.Proofs.YtbnnobeahliffaaGreatDoor
open Go.RowKit
namespace Cls

theorem add_tbq (A B : List Nat) (h : A.length + B.length ≤ 9000000000000000000) : ∀ w : World, (Op.stringOp .add (tbs A) (tbs B)).run Tryz.prog w = .ok (.string (tbs (A ++ B))) w := fun w => by
  rw [run_string_add_sum (P := Tryz.prog) (w := w) _ _ (by rw [tbs_size, tbs_size]; omega), tbs_app]

theorem txt_le (t : Qt) (h : t.rg) : t.txt.length + 1000 ≤ 200000 * t.flat.length := by
  refine Qt.rind (P := fun t => t.txt.length + 1000 ≤ 200000 * t.flat.length) ?_ ?_ ?_ t h
  · intro x hk hr
    obtain ⟨⟨T, hT⟩, h0, h1, _⟩ := rgn_find hk hr
    have := prt_le hT
    have hd := dgs_le7 (show x.k.toNat ≤ 1000000 by omega)
    rw [Qt.txt0, Qt.flat0, hT, Option.getD_some, List.length_append]
    split
    · simp only [List.length_cons, List.length_nil]; omega
    · simp only [List.length_cons, List.length_nil]; omega
  · intro x a hk hr _ ih
    have hn := rgn_shift hr
    have hd := dgs_le7 (show x.n.toNat ≤ 1000000 by omega)
    rw [Qt.txt1, Qt.flat1, List.length_append, List.length_cons]
    unfold brk
    split <;> split <;> simp only [List.length_cons, List.length_nil, List.length_append] <;> omega
  · intro x a b hk hr _ _ iha ihb
    rw [Qt.txt2, Qt.flat2, List.length_cons, List.length_append]
    unfold brk
    split <;> split <;> (try split) <;> simp only [List.length_cons, List.length_nil, List.length_append] <;> omega

end Cls

end Go.Proofs.YtbnnobeahliffaaGreatDoor

set_option linter.unusedVariables false
namespace Go.Proofs.YtbnnobeahliffaaGreatDoor
open Go.RowKit
namespace Cls

theorem OQ.qr {w : World} {B : Nat} {T : TypeId} {so : Option Addr} {m c : Nat} {L : List Qv} (h : OQ w B T (.slice so m c) L) (hm : L.length = m) (hs : m ≤ 4398046511104) : QR w so L := by
  obtain ⟨so', c', e, hr⟩ := h.tr (by omega)
  injection e with e1 _ _
  rw [e1]
  exact hr

/-- What Parse tells. -/
def Prs (s : ByteArray) (w : World) (B : Nat) (e : Ending) : Prop :=
  ∃ vo m vc, e = .returned (.tuple #[.slice vo m vc, .int .i64 (((qpar s).2.1 : Nat) : Int), .int .i64 (((qpar s).2.2 : Nat) : Int)]) ∧ ∃ R : List Qv, R.length = m ∧ OQ w B 36 (.slice vo m vc) R ∧ qis R = (qpar s).1

set_option maxRecDepth 100000 in
set_option maxHeartbeats 4000000 in
theorem parse14_any (hL : ∀ (s : ByteArray) (hs : s.size ≤ 1000000) (w : World), Calls Tryz.prog 21 #[.string s] w fun e w' => (∃ v L, e = .returned (.tuple #[v, .int .i64 (lpl s : Nat), .int .i64 (lcd s : Nat)]) ∧ OT w' w.heap.size 56 v L ∧ L.map Tv.i = (lls s).map Tk.i) ∧ Below w.heap.size w w') (s : ByteArray) (hs : s.size ≤ 1000000) (w : World) :
    Calls Tryz.prog 7 #[.string s] w fun e w' => Prs s w' w.heap.size e ∧ Below w.heap.size w w' := by
  unfold Prs
  have CL : Hid _ := hL s hs w
  by_cases hc : lcd s = 0
  · obtain ⟨h1000, _, hprt⟩ := lex_told hc
    have hcI : (((lcd s : Nat) : Int) != 0) = false := by rw [hc]; rfl
    have HPR : Hid _ := hprt
    have hqp : qpar s = match qry (itq (lls s).length) (lls s) with
      | .error r => ([], plq s r, 140)
      | .ok (X, t :: r) => ([], plq s (t :: r), 140)
      | .ok (X, []) => if 64 < X.flat.length then ([], 0, 142) else if 16 < X.dep then ([], 0, 141) else (X.flat, s.size, 0) := by
      unfold qpar
      rw [if_neg (by omega)]
      cases qry (itq (lls s).length) (lls s) with
      | error r => rfl
      | ok y =>
        obtain ⟨X, r⟩ := y
        cases r <;> rfl
    obtain ⟨Q, hQ⟩ : ∃ Q, qpar s = Q := ⟨_, rfl⟩
    rw [hQ] at hqp ⊢
    have HQP : Hid _ := hqp
    have hfew := lls_few s
    generalize lls s = Y at *
    generalize lpl s = lp at *
    generalize lcd s = lc at *
    clear hL hqp hQ hprt hc
    go_enter Tryz.func7, Tryz.ntmps7
    go_wp2_with fail
    refine Calls.mono CL.out ?_; rintro e w1 ⟨⟨v1, L, rfl, ho, hl⟩, b1⟩
    have hLn : L.length = Y.length := by have := congrArg List.length hl; simpa using this
    obtain ⟨so, sc, rfl, htr⟩ := ho.tr (by omega)
    obtain ⟨n, hn⟩ : ∃ n, Y.length = n := ⟨_, rfl⟩
    rw [hLn, hn]
    have HTY : Hid (Ty w1 so Y) := ⟨L, htr, hl⟩
    have HN : Hid (Y.length = n) := hn
    have hn9 : n ≤ 1001 := by omega
    have B1 : Hid (Below w.heap.size w w1) := b1
    have CQ : Hid (Calls Tryz.prog 22 #[.slice so n sc, .int .i64 0] w1 fun e w' => (∃ vo m vc nx bad, e = .returned (.agg #[.slice vo m vc, .int .i64 ((nx : Nat) : Int), .bool bad]) ∧ Gq w' w1.heap.size w1.heap.size Y 0 (qry (itq n) Y) (.slice vo m vc) m nx bad) ∧ Below w1.heap.size w1 w') := by
      have := qry14_any n sc so Y hn (by omega) w1 ⟨L, htr, hl⟩ n 0 w1 (Below.refl _ _) (Nat.zero_le _) (by omega)
      rw [List.drop_zero] at this
      exact this
    rw [hn] at HQP
    clear b1 ho hl htr hLn hn CL hfew
    go_wp2_with fail
    refine Calls.mono CQ.out ?_; rintro e w2 ⟨⟨vo, m, vc, nx, bad, rfl, hg⟩, b2⟩
    obtain ⟨w3, e3⟩ : ∃ w3, w3 = w2.alloc (.cells #[.slice vo m vc, .int .i64 (nx : Int), .bool bad] 53) := ⟨_, rfl⟩
    have b3 : Below w2.heap.size w2 w3 := by rw [e3]; exact al_below _ _
    have q3 : Hid (Q3 w3 w2.heap.size (.slice vo m vc) (nx : Int) bad) := by show Q3 _ _ _ _ _; rw [e3]; exact q3_new _ _ _ _
    have B3 : Hid (Below w.heap.size w w3) := bgrow' (bgrow' B1.out b2) b3
    have TY3 : Hid (Ty w3 so Y) := (HTY.out.grow b2).grow b3
    have hw1 : w.heap.size ≤ w1.heap.size := B1.out.size
    obtain ⟨R, g1, g2, g3, _⟩ := hg.row
    have OR : Hid (OQ w3 w.heap.size 36 (.slice vo m vc) R) := oq_mono (g2.grow b3) hw1
    have hle := hg.le
    have hnx : nx ≤ n := by have := HN.out; omega
    have HG : Hid (rst (qry (itq n) Y) = Y.drop nx ∧ bad = isB (qry (itq n) Y) ∧ R.length = m ∧ ∀ X r, qry (itq n) Y = .ok (X, r) → qis R = X.flat) := ⟨hg.rest, hg.bad, g1, g3⟩
    have E3 : Hid _ := e3
    obtain ⟨c0, c1, c2⟩ := q3.out.c
    have HE : Hid (bad = true ∨ nx < n → Q = ([], plq s (Y.drop nx), 140)) := fun h => by
      obtain ⟨hr, hb, _, _⟩ := HG.out
      rw [HQP.out]
      cases ho : qry (itq n) Y with
      | error r =>
        rw [ho] at hr
        rw [← hr]
        rfl
      | ok y =>
        obtain ⟨X, r⟩ := y
        rw [ho] at hr hb
        have hr : r = Y.drop nx := hr
        have hlt : nx < n := by
          rcases h with h | h
          · rw [hb] at h; cases h
          · exact h
        cases hdn : Y.drop nx with
        | nil =>
          have := congrArg List.length hdn
          rw [List.length_drop, HN.out] at this
          simp only [List.length_nil] at this
          omega
        | cons t L2 =>
          rw [hr, hdn]
    clear e3 b3 hg b2 g1 g2 g3 CQ B1 q3 HTY
    by_cases hlt : nx < n
    · have hltI : (nx : Int) < (n : Int) := by omega
      obtain ⟨b, o, rfl, hb, hC⟩ := TY3.out.at' (by have := HN.out; omega)
      obtain ⟨ao, c, t0, k1, t2, t3, t4⟩ := hC nx (by rw [HN.out]; exact hlt)
      have HQ : Hid (Q = ([], (Y[nx]'(by rw [HN.out]; exact hlt)).at', 140)) := by
        show _ = _
        rw [HE.out (.inr hlt), List.drop_eq_getElem_cons (by rw [HN.out]; exact hlt)]
        rfl
      generalize (Y[nx]'(by rw [HN.out]; exact hlt)).at' = pl at *
      clear t0 t2 t3 t4 hC
      cases bad with
      | true =>
        go_wp2_with (first | rw [← E3.out])
        try simp only [Exit.noGoto]
        refine bodyPost_ret (results_tmp3 rfl _ _ _) rfl ?_
        exact ⟨⟨none, 0, 0, by rw [HQ.out]; rfl, [], rfl, oq_nil _ _ _, by rw [HQ.out]; rfl⟩, B3.out⟩
      | false =>
        go_wp2_with (first | rw [← E3.out])
        try simp only [Exit.noGoto]
        refine bodyPost_ret (results_tmp3 rfl _ _ _) rfl ?_
        exact ⟨⟨none, 0, 0, by rw [HQ.out]; rfl, [], rfl, oq_nil _ _ _, by rw [HQ.out]; rfl⟩, B3.out⟩
    · have hltI : ¬ (nx : Int) < (n : Int) := by omega
      cases bad with
      | true =>
        have HQ : Hid (Q = ([], s.size, 140)) := by
          show _ = _
          rw [HE.out (.inl rfl), List.drop_eq_nil_of_le (by rw [HN.out]; omega)]
          rfl
        go_wp2_with (first | rw [← E3.out])
        try simp only [Exit.noGoto]
        refine bodyPost_ret (results_tmp3 rfl _ _ _) rfl ?_
        exact ⟨⟨none, 0, 0, by rw [HQ.out]; rfl, [], rfl, oq_nil _ _ _, by rw [HQ.out]; rfl⟩, B3.out⟩
      | false =>
        have HX : Hid (∃ X : Qt, X.rg ∧ qis R = X.flat ∧ R.length = m ∧ Q = if 64 < X.flat.length then ([], 0, 142) else if 16 < X.dep then ([], 0, 141) else (X.flat, s.size, 0)) := by
          obtain ⟨hr, hb, hm, h3⟩ := HG.out
          cases ho : qry (itq n) Y with
          | error r => rw [ho] at hb; cases hb
          | ok y =>
            obtain ⟨X, r⟩ := y
            rw [ho] at hr
            have hr : r = Y.drop nx := hr
            rw [List.drop_eq_nil_of_le (by rw [HN.out]; omega)] at hr
            subst hr
            refine ⟨X, qry_rg (itq_suf _) (fun L X r => itq_rg HPR.out _ L X r) _ X [] (List.suffix_refl _) ho, h3 X [] ho, hm, ?_⟩
            rw [HQP.out, ho]
        obtain ⟨X, hX, hqi, hm, hQ⟩ := HX.out
        have hfl : X.flat.length = m := by rw [← hqi, qis_len, hm]
        rw [hfl] at hQ
        by_cases h64 : 64 < m
        · have h64I : (64 : Int) < (m : Int) := by omega
          have HQ : Hid (Q = ([], 0, 142)) := by show _ = _; rw [hQ, if_pos h64]
          clear hQ hX hqi hm hfl HX
          go_wp2_with (first | rw [← E3.out])
          try simp only [Exit.noGoto]
          refine bodyPost_ret (results_tmp3 rfl _ _ _) rfl ?_
          exact ⟨⟨none, 0, 0, by rw [HQ.out]; rfl, [], rfl, oq_nil _ _ _, by rw [HQ.out]; rfl⟩, B3.out⟩
        · have h64I : ¬ (64 : Int) < (m : Int) := by omega
          rw [if_neg h64] at hQ
          have CD : Hid (Calls Tryz.prog 23 #[.slice vo m vc] w3 fun e w' => e = .returned (.int .i64 (X.dep : Int)) ∧ Below w3.heap.size w3 w') := by
            have := depth14_any m vc vo R hm w3 (OR.out.qr hm (by omega))
            rw [hqi, qdep_flat X hX.1] at this
            exact this
          have HRX : Hid (R.length = m ∧ qis R = X.flat) := ⟨hm, hqi⟩
          by_cases h16 : 16 < X.dep
          · have h16I : (16 : Int) < (X.dep : Int) := by omega
            have HQ : Hid (Q = ([], 0, 141)) := by show _ = _; rw [hQ, if_pos h16]
            clear hQ hX hqi hm hfl HX
            go_wp2_with (first | rw [← E3.out])
            refine Calls.mono CD.out ?_; rintro e w4 ⟨rfl, b4⟩
            have B4 : Hid (Below w.heap.size w w4) := bgrow' B3.out b4
            clear b4 CD
            go_wp2_with fail
            try simp only [Exit.noGoto]
            refine bodyPost_ret (results_tmp3 rfl _ _ _) rfl ?_
            exact ⟨⟨none, 0, 0, by rw [HQ.out]; rfl, [], rfl, oq_nil _ _ _, by rw [HQ.out]; rfl⟩, B4.out⟩
          · have h16I : ¬ (16 : Int) < (X.dep : Int) := by omega
            have HQ : Hid (Q = (X.flat, s.size, 0)) := by show _ = _; rw [hQ, if_neg h16]
            clear hQ hX hqi hm hfl HX
            go_wp2_with (first | rw [← E3.out])
            refine Calls.mono CD.out ?_; rintro e w4 ⟨rfl, b4⟩
            have B4 : Hid (Below w.heap.size w w4) := bgrow' B3.out b4
            have O4 : Hid (OQ w4 w.heap.size 36 (.slice vo m vc) R) := OR.out.grow b4
            have d0 := (b4.cell (p := ⟨w2.heap.size, 0, none⟩) (World.block_lt_of_cell? w3 _ c0)).trans c0
            clear b4 CD c0 c1 c2
            go_wp2_with fail
            try simp only [Exit.noGoto]
            refine bodyPost_ret (results_tmp3 rfl _ _ _) rfl ?_
            exact ⟨⟨vo, m, vc, by rw [HQ.out]; rfl, R, HRX.out.1, O4.out, by rw [HQ.out, HRX.out.2]⟩, B4.out⟩
  · have hcI : (((lcd s : Nat) : Int) != 0) = true := by
      have : ¬ ((lcd s : Nat) : Int) = 0 := by omega
      simpa using this
    have HQ : Hid (qpar s = ([], lpl s, lcd s)) := by show _ = _; unfold qpar; rw [if_pos hc]
    generalize qpar s = Q at *
    generalize lls s = Y at *
    generalize lpl s = lp at *
    generalize lcd s = lc at *
    clear hL hc
    go_enter Tryz.func7, Tryz.ntmps7
    go_wp2_with fail
    refine Calls.mono CL.out ?_; rintro e w1 ⟨⟨v1, L, rfl, _, _⟩, b1⟩
    have B1 : Hid (Below w.heap.size w w1) := b1
    clear b1 CL
    go_wp2_with fail
    try simp only [Exit.noGoto]
    refine bodyPost_ret (results_tmp3 rfl _ _ _) rfl ?_
    exact ⟨⟨none, 0, 0, by rw [HQ.out]; rfl, [], rfl, oq_nil _ _ _, by rw [HQ.out]; rfl⟩, B1.out⟩

end Cls

end Go.Proofs.YtbnnobeahliffaaGreatDoor

set_option linter.unusedVariables false
namespace Go.Proofs.YtbnnobeahliffaaGreatDoor
namespace Cls

theorem cb_congr {f g : Nat → Bool} : ∀ (n : Nat), (∀ x, x < n → f x = g x) → cb f 0 n = cb g 0 n
  | 0, _ => by simp [cb]
  | n + 1, h => by rw [cb_snoc, cb_snoc, cb_congr n (fun x hx => h x (by omega)), h n (by omega)]

theorem rr_congr {f g : Nat → Bool} : ∀ (n : Nat), (∀ x, x < n → f x = g x) → rr f n = rr g n
  | 0, _ => by rw [rr_zero, rr_zero]
  | n + 1, h => by
    rw [rr, rr, rr_congr n (fun x hx => h x (by omega)), h n (by omega)]
    by_cases h0 : n = 0
    · simp [h0]
    · rw [h (n - 1) (by omega)]

theorem find_congr {f g : Nat → Bool} : ∀ {L : List Nat}, (∀ x ∈ L, f x = g x) → L.find? f = L.find? g
  | [], _ => rfl
  | a :: L, h => by
    rw [List.find?_cons, List.find?_cons, h a (List.mem_cons_self ..), find_congr (fun x hx => h x (List.mem_cons_of_mem _ hx))]

theorem elt_congr {f g : Nat → Bool} (h : sm f g = true) : elt f = elt g := by
  rw [sm_iff] at h
  have hc := cb_congr 256 h
  have hs : sg f = sg g := by unfold sg; rw [hc]
  have hb : bt f = bt g := by
    unfold bt
    rw [hs, find_congr (fun x hx => h x (List.mem_range.1 hx))]
  unfold elt
  rw [hc, hs, hb, rr_congr 256 h]

theorem elts_congr : ∀ {L M : List (Nat → Bool)}, sml' L M → elts L = elts M
  | [], [], _ => rfl
  | f :: L, g :: M, h => by
    unfold elts
    rw [elt_congr h.1, elts_congr h.2]

theorem prt_congr {k a a' n : Nat} {P Q : List (Nat → Bool)} (h : sml' P Q) : prt ⟨k, a, n, P⟩ = prt ⟨k, a', n, Q⟩ := by
  unfold prt
  simp only
  rw [elts_congr h, sml_len h]

/-- What holds of trees that are alike. -/
theorem Qt.alk_ind {P : Qt → Qt → Prop} (h0 : ∀ x y, qal x y → P ⟨x, []⟩ ⟨y, []⟩) (h1 : ∀ x y a c, qal x y → a.alk c → P a c → P ⟨x, [a]⟩ ⟨y, [c]⟩) (h2 : ∀ x y a b c d, qal x y → a.alk c → b.alk d → P a c → P b d → P ⟨x, [a, b]⟩ ⟨y, [c, d]⟩) : ∀ t u : Qt, t.alk u → P t u
  | ⟨x, []⟩, ⟨y, []⟩, h => h0 x y (by rw [Qt.alk0] at h; exact h)
  | ⟨x, [a]⟩, ⟨y, [c]⟩, h => by
    rw [Qt.alk1] at h
    exact h1 x y a c h.1 h.2 (alk_ind h0 h1 h2 a c h.2)
  | ⟨x, [a, b]⟩, ⟨y, [c, d]⟩, h => by
    rw [Qt.alk2] at h
    exact h2 x y a b c d h.1 h.2.1 h.2.2 (alk_ind h0 h1 h2 a c h.2.1) (alk_ind h0 h1 h2 b d h.2.2)
  | ⟨_, []⟩, ⟨_, _ :: _⟩, h => by simp [Qt.alk] at h
  | ⟨_, [_]⟩, ⟨_, []⟩, h => by simp [Qt.alk] at h
  | ⟨_, [_]⟩, ⟨_, _ :: _ :: _⟩, h => by simp [Qt.alk] at h
  | ⟨_, _ :: _ :: _⟩, ⟨_, []⟩, h => by simp [Qt.alk] at h
  | ⟨_, _ :: _ :: _⟩, ⟨_, [_]⟩, h => by simp [Qt.alk] at h
  | ⟨_, [_, _]⟩, ⟨_, _ :: _ :: _ :: _⟩, h => by simp [Qt.alk] at h
  | ⟨_, _ :: _ :: _ :: _⟩, ⟨_, _ :: _ :: _⟩, h => by simp [Qt.alk] at h

theorem alk_root {t u : Qt} (h : t.alk u) : qal t.x u.x :=
  Qt.alk_ind (P := fun t u => qal t.x u.x) (fun _ _ h => h) (fun _ _ _ _ h _ _ => h) (fun _ _ _ _ _ _ h _ _ _ _ => h) t u h

theorem alk_dep {t u : Qt} (h : t.alk u) : t.dep = u.dep := by
  refine Qt.alk_ind (P := fun t u => t.dep = u.dep) (fun _ _ _ => ?_) (fun _ _ a c _ _ e => ?_) (fun _ _ a b c d _ _ _ e e' => ?_) t u h
  · rw [Qt.dep0, Qt.dep0]
  · rw [Qt.dep1, Qt.dep1, e]
  · rw [Qt.dep2, Qt.dep2, e, e']

/-- Rows of nodes that are alike. -/
def qls : List Qn → List Qn → Prop
  | [], [] => True
  | x :: L, y :: M => qal x y ∧ qls L M
  | _, _ => False

theorem qls_app : ∀ {A B C D : List Qn}, qls A C → qls B D → qls (A ++ B) (C ++ D)
  | [], B, [], D, _, h => h
  | x :: A, B, y :: C, D, h, h' => ⟨h.1, qls_app h.2 h'⟩

theorem alk_flat {t u : Qt} (h : t.alk u) : qls t.flat u.flat := by
  refine Qt.alk_ind (P := fun t u => qls t.flat u.flat) (fun _ _ e => ?_) (fun _ _ a c e _ h => ?_) (fun _ _ a b c d e _ _ h h' => ?_) t u h
  · rw [Qt.flat0, Qt.flat0]; exact ⟨e, trivial⟩
  · rw [Qt.flat1, Qt.flat1]; exact ⟨e, h⟩
  · rw [Qt.flat2, Qt.flat2]; exact ⟨e, qls_app h h'⟩

theorem qls_len : ∀ {L M : List Qn}, qls L M → L.length = M.length
  | [], [], _ => rfl
  | _ :: L, _ :: M, h => by rw [List.length_cons, List.length_cons, qls_len h.2]

theorem qls_at : ∀ {L M : List Qn}, qls L M → ∀ i, (h : i < L.length) → (h' : i < M.length) → qal L[i] M[i]
  | [], [], _, i, h, _ => by simp at h
  | x :: L, y :: M, h, 0, _, _ => h.1
  | x :: L, y :: M, h, i + 1, h1, h2 => qls_at h.2 i (by simpa using h1) (by simpa using h2)

theorem alk_txt {t u : Qt} (h : t.alk u) : t.txt = u.txt := by
  refine Qt.alk_ind (P := fun t u => t.txt = u.txt) (fun x y e => ?_) (fun x y a c e g h => ?_) (fun x y a b c d e g g' h h' => ?_) t u h
  · rw [Qt.txt0, Qt.txt0, prt_congr e.p, e.k]
  · rw [Qt.txt1, Qt.txt1, e.kind, e.n, h, (alk_root g).kind]
  · rw [Qt.txt2, Qt.txt2, e.kind, h, h', (alk_root g).kind, (alk_root g').kind]

theorem qal_sqn {x y : Qn} (h : qal x y) : sqn x y = true := by
  unfold sqn
  have hl := sml_len h.p
  rw [h.kind, h.n, h.k, hl, eqr_yes (fun t ht => sml_at h.p t (by omega))]
  simp

/-- A right row's text is small, and is parsed as a row that is alike. -/
theorem qpar_txt {t : Qt} (h : t.rg) (hl : t.flat.length ≤ 64) (hd : t.dep ≤ 16) (hn : t.txt.length ≤ 1000) : ∃ t' : Qt, qpar (tbs t.txt) = (t'.flat, t.txt.length, 0) ∧ t'.alk t := by
  have hr := tks_txt t h 0
  rw [List.replicate_zero, List.nil_append] at hr
  obtain ⟨M, hM, hm⟩ := lxl_rowz (s := tbs t.txt) (t.tks 0) t.txt ((tbs t.txt).size + 1) 0 [] hr (hat_self (rowt_sml hr)) (by rw [tbs_size]; omega) (by rw [tbs_size]; omega)
  have h1 : lex1 (tbs t.txt) = .ok M := by
    unfold lex1
    rw [if_neg (by rw [tbs_size]; omega), hM]
    rfl
  obtain ⟨_, e2, e3⟩ := lex_ok h1
  obtain ⟨t', e, ha⟩ := qry_txt h (rowm_tsl hm)
  refine ⟨t', ?_, ha⟩
  unfold qpar
  rw [if_neg (by omega), e3, e]
  simp only
  rw [if_neg (by rw [qls_len (alk_flat ha)]; omega), if_neg (by rw [alk_dep ha]; omega), tbs_size]

end Cls

end Go.Proofs.YtbnnobeahliffaaGreatDoor

set_option linter.unusedVariables false
namespace Go.Proofs.YtbnnobeahliffaaGreatDoor
namespace Cls

/-- An item that nothing follows is a query. -/
theorem qry_item {f : Nat} {L : List Tk} {X : Qt} {R : List Tk} (h : itq f L = .ok (X, R)) (h3 : nk 3 R) (h4 : nk 4 R) : qry (itq f) L = .ok (X, R) := by
  unfold qry paq
  rw [h]
  simp only
  rw [chn_end h3]
  simp only
  rw [chn_end h4]

end Cls

end Go.Proofs.YtbnnobeahliffaaGreatDoor

set_option linter.unusedVariables false
namespace Go.Proofs.YtbnnobeahliffaaGreatDoor
namespace Cls

theorem lxl_places {s : ByteArray} : ∀ (fuel q : Nat) (out L : List Tk), lxl s fuel q out = .ok L → (∀ t ∈ out, t.at' ≤ s.size) → ∀ t ∈ L, t.at' ≤ s.size
  | 0, _, _, _, h, _ => by cases h
  | fuel + 1, q, out, L, h, ho => by
    rw [lxl] at h
    split at h
    · simp only [Except.ok.injEq] at h
      subst h
      exact ho
    split at h
    · exact lxl_places fuel _ _ L h ho
    · split at h
      · cases h
      · rename_i t n e1
        have h1 := tok1_next (by omega) e1
        exact lxl_places fuel n _ L h (fun u hu => by
          rcases List.mem_append.1 hu with hu | hu
          · exact ho u hu
          · rw [List.mem_singleton] at hu; rw [hu, h1.2.2.1]; omega)

theorem plq_le {s : ByteArray} {r : List Tk} (h : ∀ t ∈ r, t.at' ≤ s.size) : plq s r ≤ s.size := by
  cases r with
  | nil => exact Nat.le_refl _
  | cons t r => exact h t (List.mem_cons_self ..)

/-- The place is none behind the end. -/
theorem qpar_place (s : ByteArray) : (qpar s).2.1 ≤ s.size := by
  unfold qpar
  by_cases hc : lcd s = 0
  · rw [if_neg (by omega)]
    obtain ⟨h1, h2, _⟩ := lex_told hc
    have hat : ∀ t ∈ lls s, t.at' ≤ s.size := by
      unfold lex1 at h2
      rw [if_neg (by omega)] at h2
      exact lxl_places _ _ _ _ h2 (fun t ht => by simp at ht)
    have hs := qry_suf (itq_suf (lls s).length) (lls s)
    cases e : qry (itq (lls s).length) (lls s) with
    | error r =>
      rw [e] at hs
      exact plq_le (fun t ht => hat t (hs.subset ht))
    | ok y =>
      obtain ⟨X, r⟩ := y
      rw [e] at hs
      cases r with
      | cons u r => exact plq_le (fun t ht => hat t (hs.subset ht))
      | nil =>
        simp only
        split
        · exact Nat.zero_le _
        split
        · exact Nat.zero_le _
        · exact Nat.le_refl _
  · rw [if_pos hc]
    exact lpl_le s

theorem rg_at (b x : Nat) : rg b (b + 1) x = (x == b) := by
  unfold rg
  rw [Bool.eq_iff_iff]
  simp
  omega

/-- An element of one byte. -/
theorem elt_byte {b : Nat} (h : b < 256) : elt (rg b (b + 1)) = some (wrt b aptE) := by
  obtain ⟨h1, h2⟩ := sg_one (f := rg b (b + 1)) h (fun x _ => rg_at b x)
  have hc : cb (rg b (b + 1)) 0 256 = 1 := by
    unfold sg at h1
    simpa using h1
  unfold elt
  rw [hc, if_neg (by decide), if_neg (by decide), if_pos h1, h2]

/-- A pattern of bytes. -/
def pby (L : List Nat) : List (Nat → Bool) := L.map fun b => rg b (b + 1)

/-- The law's own query. -/
def alq : Qt := ⟨⟨3, 0, [], 0⟩, [⟨⟨2, 0, [], 0⟩, [⟨⟨1, 0, pby [97], 0⟩, []⟩, ⟨⟨1, 0, pby [98], 0⟩, []⟩]⟩, ⟨⟨4, 0, [], 0⟩, [⟨⟨1, 0, pby [99, 100], 1⟩, []⟩]⟩]⟩

theorem prt_bytes1 {a : Nat} (h : a < 256) : prt ⟨8, 0, 0, pby [a]⟩ = some (34 :: (wrt a aptE ++ [34])) := by
  unfold prt
  rw [if_neg (by simp), if_pos rfl, if_neg (by simp [pby])]
  simp only [pby, List.map_cons, List.map_nil, elts, elt_byte h, List.append_nil]

theorem prt_bytes2 {a b : Nat} (h : a < 256) (h' : b < 256) : prt ⟨8, 0, 0, pby [a, b]⟩ = some (34 :: ((wrt a aptE ++ wrt b aptE) ++ [34])) := by
  unfold prt
  rw [if_neg (by simp), if_pos rfl, if_neg (by simp [pby])]
  simp only [pby, List.map_cons, List.map_nil, elts, elt_byte h, elt_byte h', List.append_nil]

theorem rgn_bytes {L : List Nat} {k : Nat} (h1 : 1 ≤ L.length) (h2 : L.length ≤ 64) (hk : k ≤ 64) (hb : ∀ b ∈ L, b < 256) : rgn ⟨1, 0, pby L, (k : Int)⟩ = true := by
  have he : emp (at' (pby L)) (pby L).length = false := emp_ne (fun f hf => by
    unfold pby at hf
    obtain ⟨b, hb', rfl⟩ := List.mem_map.1 hf
    exact cb_rg (hb b hb') (by omega))
  have hl : (pby L).length = L.length := by simp [pby]
  have hr : rgt (at' (pby L)) (pby L).length (k : Int) = true := by
    unfold rgt
    rw [he, hl]
    simp only [Bool.and_eq_true, decide_eq_true_eq]
    exact ⟨by omega, rfl⟩
  unfold rgn
  simp [hr]

theorem alq_rg : alq.rg := by
  unfold alq
  refine ⟨?_, fun x hx => ?_⟩
  · rw [Qt.ok2, Qt.ok2, Qt.ok0, Qt.ok0, Qt.ok1, Qt.ok0]
    exact ⟨.inr rfl, ⟨.inl rfl, rfl, rfl⟩, .inl rfl, rfl⟩
  · rw [Qt.flat2, Qt.flat2, Qt.flat0, Qt.flat0, Qt.flat1, Qt.flat0] at hx
    simp only [List.cons_append, List.nil_append, List.mem_cons, List.not_mem_nil, or_false] at hx
    rcases hx with rfl | rfl | rfl | rfl | rfl | rfl
    · decide
    · decide
    · exact rgn_bytes (L := [97]) (k := 0) (by decide) (by decide) (by decide) (by decide)
    · exact rgn_bytes (L := [98]) (k := 0) (by decide) (by decide) (by decide) (by decide)
    · decide
    · exact rgn_bytes (L := [99, 100]) (k := 1) (by decide) (by decide) (by decide) (by decide)

theorem alq_txt : alq.txt = [34, 97, 34, 32, 38, 32, 34, 98, 34, 32, 124, 32, 33, 34, 99, 100, 34, 126, 49] := by
  unfold alq
  rw [Qt.txt2, Qt.txt2, Qt.txt0, Qt.txt0, Qt.txt1, Qt.txt0, prt_bytes1 (by decide), prt_bytes1 (by decide), prt_bytes2 (by decide) (by decide)]
  have hd : dgs 1 = [49] := dgs_one (by decide)
  simp [brk, isAO, wrt, sgn, aptE, hd]

/-- It is parsed. -/
theorem alq_par : ∃ t' : Qt, qpar (tbs [34, 97, 34, 32, 38, 32, 34, 98, 34, 32, 124, 32, 33, 34, 99, 100, 34, 126, 49]) = (t'.flat, 19, 0) ∧ t'.alk alq := by
  have h := qpar_txt alq_rg (by unfold alq; rw [Qt.flat2, Qt.flat2, Qt.flat0, Qt.flat0, Qt.flat1, Qt.flat0]; decide) (by unfold alq; rw [Qt.dep2, Qt.dep2, Qt.dep0, Qt.dep0, Qt.dep1, Qt.dep0]; decide) (by rw [alq_txt]; decide)
  rw [alq_txt] at h
  exact h

/-- Two patterns with nothing between. -/
theorem two_par : qpar (tbs [34, 97, 34, 32, 34, 98, 34]) = ([], 4, 140) := by
  have h1 : prt ⟨8, 0, 0, pby [97]⟩ = some [34, 97, 34] := prt_bytes1 (by decide)
  have h2 : prt ⟨8, 0, 0, pby [98]⟩ = some [34, 98, 34] := prt_bytes1 (by decide)
  have hr : rowt [(0, ⟨8, 0, 0, pby [97]⟩), (1, ⟨8, 0, 0, pby [98]⟩)] = some [34, 97, 34, 32, 34, 98, 34] := by
    rw [rowt_cons h1 (rowt_one h2)]
    rfl
  obtain ⟨M, hM, hm⟩ := lxl_rowz (s := tbs [34, 97, 34, 32, 34, 98, 34]) _ _ ((tbs [34, 97, 34, 32, 34, 98, 34]).size + 1) 0 [] hr (hat_self (rowt_sml hr)) (by rw [tbs_size]; rfl) (by rw [tbs_size]; decide)
  rw [List.nil_append] at hM
  match M, hm with
  | [u, v], hm =>
    obtain ⟨⟨k1, _, _⟩, p1, T, hT, ⟨k2, _, _⟩, p2, _⟩ := hm
    simp only at k1 k2 p1 p2 hT
    rw [h1] at hT
    cases hT
    have hl : lex1 (tbs [34, 97, 34, 32, 34, 98, 34]) = .ok [u, v] := by
      unfold lex1
      rw [if_neg (by rw [tbs_size]; decide), hM]
    obtain ⟨_, e2, e3⟩ := lex_ok hl
    unfold qpar
    rw [if_neg (by omega), e3]
    have hq : qry (itq 2) [u, v] = .ok (⟨⟨1, 0, u.p, 0⟩, []⟩, [v]) := by
      refine qry_item ?_ (by show v.kind ≠ 3; omega) (by show v.kind ≠ 4; omega)
      rw [itq_step, if_neg (by omega), if_neg (by omega), if_pos k1]
      simp only
      rw [if_neg (by omega)]
    show (match qry (itq 2) [u, v] with
      | .error r => ([], plq _ r, 140)
      | .ok (X, t :: r) => ([], plq _ (t :: r), 140)
      | .ok (X, []) => if 64 < X.flat.length then ([], 0, 142) else if 16 < X.dep then ([], 0, 141) else (X.flat, _, 0)) = _
    rw [hq]
    show ([], v.at', 140) = _
    rw [p2]
    rfl

end Cls

end Go.Proofs.YtbnnobeahliffaaGreatDoor

set_option linter.unusedVariables false
namespace Go.Proofs.YtbnnobeahliffaaGreatDoor
open Go.RowKit
namespace Cls

/-- The text of a row, if it is right. -/
def qpt (l : List Qn) : Option (List Nat) := if qrg l = true then some (match unf l.length l with | some (t, _) => t.txt | none => []) else none

theorem qpt_tree {t : Qt} (h : t.ok) (hr : qrg t.flat = true) : qpt t.flat = some t.txt := by
  have := unf_flat t h t.flat.length [] (Nat.le_refl _)
  rw [List.append_nil] at this
  unfold qpt
  rw [if_pos hr, this]

theorem lng_snoc (l : List Qn) (x : Qn) : lng (l ++ [x]) = if x.kind = 1 ∧ lng l < x.p.length then x.p.length else lng l := by
  unfold lng
  rw [List.foldl_append]
  rfl

theorem lng_le (l : List Qn) (N : Nat) (h : ∀ x ∈ l, x.p.length ≤ N) : lng l ≤ N := by
  have : ∀ (l : List Qn) (m : Nat), m ≤ N → (∀ x ∈ l, x.p.length ≤ N) → l.foldl (fun m x => if x.kind = 1 ∧ m < x.p.length then x.p.length else m) m ≤ N := by
    intro l
    induction l with
    | nil => intro m hm _; exact hm
    | cons x l ih =>
      intro m hm h
      rw [List.foldl_cons]
      refine ih _ ?_ (fun y hy => h y (List.mem_cons_of_mem _ hy))
      split
      · exact h x (List.mem_cons_self ..)
      · exact hm
  exact this l 0 (Nat.zero_le _) h

end Cls

end Go.Proofs.YtbnnobeahliffaaGreatDoor

set_option linter.unusedVariables false
namespace Go.Proofs.YtbnnobeahliffaaGreatDoor
namespace Cls

end Cls

end Go.Proofs.YtbnnobeahliffaaGreatDoor

set_option linter.unusedVariables false
namespace Go.Proofs.YtbnnobeahliffaaGreatDoor
namespace Cls

end Cls

end Go.Proofs.YtbnnobeahliffaaGreatDoor

set_option linter.unusedVariables false
namespace Go.Proofs.YtbnnobeahliffaaGreatDoor
open Go.RowKit
namespace Cls

theorem some_if {p : Prop} [Decidable p] {L : List Nat} (h : p) : (if p then some L else none : Option (List Nat)).isSome = true := by rw [if_pos h]; rfl

theorem none_if {p : Prop} [Decidable p] {L : List Nat} (h : ¬ p) : (if p then some L else none : Option (List Nat)).isSome = false := by rw [if_neg h]; rfl

set_option maxRecDepth 100000 in
set_option maxHeartbeats 4000000 in
theorem right13_any (x : Tv) (w : World) (hx : x.ok w) :
    Calls Tryz.prog 83 #[x.val] w fun e w' => e = .returned (.bool (prI x.i).isSome) ∧ Below w.heap.size w w' := by
  obtain ⟨⟨xk, xa, xn, xp⟩, xo, xc⟩ := x
  unfold Tv.ok at hx
  simp only at hx
  unfold Tv.val
  simp only
  obtain ⟨w1, e1⟩ : ∃ w1, w1 = w.alloc (.cells #[.int .i64 xk, .int .i64 xa, .int .i64 xn, .slice xo xp.length xc] 76) := ⟨_, rfl⟩
  have q1 : K4 w1 w.heap.size (.int .i64 xk) (.int .i64 xa) (.int .i64 xn) (.slice xo xp.length xc) := by rw [e1]; exact k4_new _ _ _ _ _ _
  have b1 : Below w.heap.size w w1 := by rw [e1]; exact al_below _ _
  have HX : Hid (Lf w1 xo xp.length (at' xp)) := hx.grow b1
  have B1 : Hid (Below w.heap.size w w1) := b1
  have E1 : Hid _ := e1
  clear e1 b1 hx
  by_cases hout : xk < 1 ∨ 8 < xk
  · have HF : Hid ((prI ⟨xk, xa, xn, xp⟩).isSome = false) := by show _ = _; rw [prI_out hout]; rfl
    have g1 : (xk == 1) = false := beq_eq_false_iff_ne.2 (by omega)
    have g2 : (xk == 2) = false := beq_eq_false_iff_ne.2 (by omega)
    have g3 : (xk == 3) = false := beq_eq_false_iff_ne.2 (by omega)
    have g4 : (xk == 4) = false := beq_eq_false_iff_ne.2 (by omega)
    have g5 : (xk == 5) = false := beq_eq_false_iff_ne.2 (by omega)
    have g6 : (xk == 6) = false := beq_eq_false_iff_ne.2 (by omega)
    have g7 : (xk == 7) = false := beq_eq_false_iff_ne.2 (by omega)
    have g8 : (xk == 8) = false := beq_eq_false_iff_ne.2 (by omega)
    obtain ⟨a0, a1, a2, a3⟩ := q1
    clear hout
    go_enter Tryz.func83, Tryz.ntmps83
    go_wp2_with (first | rw [← E1.out])
    go_ret
    exact ⟨by rw [HF.out]; rfl, B1.out⟩
  · have hk : xk = 1 ∨ xk = 2 ∨ xk = 3 ∨ xk = 4 ∨ xk = 5 ∨ xk = 6 ∨ xk = 7 ∨ xk = 8 := by omega
    clear hout
    obtain ⟨l, hl⟩ : ∃ l, xp.length = l := ⟨_, rfl⟩
    have HL : Hid (xp.length = l) := hl
    rcases hk with rfl | rfl | rfl | rfl | rfl | rfl | rfl | rfl
    · by_cases hn : xn = 0 ∧ xp.length = 0
      · have HF : Hid ((prI ⟨1, xa, xn, xp⟩).isSome = true) := by show _ = _; rw [prI_sign (show (1 : Int) ≤ 1 by decide) (show (1 : Int) ≤ 5 by decide)]; exact some_if hn
        obtain ⟨rfl, hp⟩ := hn
        rw [hp] at q1 E1 HX ⊢
        obtain ⟨a0, a1, a2, a3⟩ := q1
        clear hl HL hp
        go_enter Tryz.func83, Tryz.ntmps83
        go_wp2_with (first | rw [← E1.out])
        go_ret
        exact ⟨by rw [HF.out]; rfl, B1.out⟩
      · have HF : Hid ((prI ⟨1, xa, xn, xp⟩).isSome = false) := by show _ = _; rw [prI_sign (show (1 : Int) ≤ 1 by decide) (show (1 : Int) ≤ 5 by decide)]; exact none_if hn
        rw [hl] at q1 E1 HX hn ⊢
        obtain ⟨a0, a1, a2, a3⟩ := q1
        by_cases h0 : xn = 0
        · have hl0 : ((l : Int) == 0) = false := beq_eq_false_iff_ne.2 (by omega)
          have h0I : (xn == 0) = true := beq_iff_eq.2 h0
          clear hn h0
          go_enter Tryz.func83, Tryz.ntmps83
          go_wp2_with (first | rw [← E1.out])
          go_ret
          exact ⟨by rw [HF.out]; rfl, B1.out⟩
        · have h0I : (xn == 0) = false := beq_eq_false_iff_ne.2 h0
          clear hn h0
          go_enter Tryz.func83, Tryz.ntmps83
          go_wp2_with (first | rw [← E1.out])
          go_ret
          exact ⟨by rw [HF.out]; rfl, B1.out⟩
    · by_cases hn : xn = 0 ∧ xp.length = 0
      · have HF : Hid ((prI ⟨2, xa, xn, xp⟩).isSome = true) := by show _ = _; rw [prI_sign (show (1 : Int) ≤ 2 by decide) (show (2 : Int) ≤ 5 by decide)]; exact some_if hn
        obtain ⟨rfl, hp⟩ := hn
        rw [hp] at q1 E1 HX ⊢
        obtain ⟨a0, a1, a2, a3⟩ := q1
        clear hl HL hp
        go_enter Tryz.func83, Tryz.ntmps83
        go_wp2_with (first | rw [← E1.out])
        go_ret
        exact ⟨by rw [HF.out]; rfl, B1.out⟩
      · have HF : Hid ((prI ⟨2, xa, xn, xp⟩).isSome = false) := by show _ = _; rw [prI_sign (show (1 : Int) ≤ 2 by decide) (show (2 : Int) ≤ 5 by decide)]; exact none_if hn
        rw [hl] at q1 E1 HX hn ⊢
        obtain ⟨a0, a1, a2, a3⟩ := q1
        by_cases h0 : xn = 0
        · have hl0 : ((l : Int) == 0) = false := beq_eq_false_iff_ne.2 (by omega)
          have h0I : (xn == 0) = true := beq_iff_eq.2 h0
          clear hn h0
          go_enter Tryz.func83, Tryz.ntmps83
          go_wp2_with (first | rw [← E1.out])
          go_ret
          exact ⟨by rw [HF.out]; rfl, B1.out⟩
        · have h0I : (xn == 0) = false := beq_eq_false_iff_ne.2 h0
          clear hn h0
          go_enter Tryz.func83, Tryz.ntmps83
          go_wp2_with (first | rw [← E1.out])
          go_ret
          exact ⟨by rw [HF.out]; rfl, B1.out⟩
    · by_cases hn : xn = 0 ∧ xp.length = 0
      · have HF : Hid ((prI ⟨3, xa, xn, xp⟩).isSome = true) := by show _ = _; rw [prI_sign (show (1 : Int) ≤ 3 by decide) (show (3 : Int) ≤ 5 by decide)]; exact some_if hn
        obtain ⟨rfl, hp⟩ := hn
        rw [hp] at q1 E1 HX ⊢
        obtain ⟨a0, a1, a2, a3⟩ := q1
        clear hl HL hp
        go_enter Tryz.func83, Tryz.ntmps83
        go_wp2_with (first | rw [← E1.out])
        go_ret
        exact ⟨by rw [HF.out]; rfl, B1.out⟩
      · have HF : Hid ((prI ⟨3, xa, xn, xp⟩).isSome = false) := by show _ = _; rw [prI_sign (show (1 : Int) ≤ 3 by decide) (show (3 : Int) ≤ 5 by decide)]; exact none_if hn
        rw [hl] at q1 E1 HX hn ⊢
        obtain ⟨a0, a1, a2, a3⟩ := q1
        by_cases h0 : xn = 0
        · have hl0 : ((l : Int) == 0) = false := beq_eq_false_iff_ne.2 (by omega)
          have h0I : (xn == 0) = true := beq_iff_eq.2 h0
          clear hn h0
          go_enter Tryz.func83, Tryz.ntmps83
          go_wp2_with (first | rw [← E1.out])
          go_ret
          exact ⟨by rw [HF.out]; rfl, B1.out⟩
        · have h0I : (xn == 0) = false := beq_eq_false_iff_ne.2 h0
          clear hn h0
          go_enter Tryz.func83, Tryz.ntmps83
          go_wp2_with (first | rw [← E1.out])
          go_ret
          exact ⟨by rw [HF.out]; rfl, B1.out⟩
    · by_cases hn : xn = 0 ∧ xp.length = 0
      · have HF : Hid ((prI ⟨4, xa, xn, xp⟩).isSome = true) := by show _ = _; rw [prI_sign (show (1 : Int) ≤ 4 by decide) (show (4 : Int) ≤ 5 by decide)]; exact some_if hn
        obtain ⟨rfl, hp⟩ := hn
        rw [hp] at q1 E1 HX ⊢
        obtain ⟨a0, a1, a2, a3⟩ := q1
        clear hl HL hp
        go_enter Tryz.func83, Tryz.ntmps83
        go_wp2_with (first | rw [← E1.out])
        go_ret
        exact ⟨by rw [HF.out]; rfl, B1.out⟩
      · have HF : Hid ((prI ⟨4, xa, xn, xp⟩).isSome = false) := by show _ = _; rw [prI_sign (show (1 : Int) ≤ 4 by decide) (show (4 : Int) ≤ 5 by decide)]; exact none_if hn
        rw [hl] at q1 E1 HX hn ⊢
        obtain ⟨a0, a1, a2, a3⟩ := q1
        by_cases h0 : xn = 0
        · have hl0 : ((l : Int) == 0) = false := beq_eq_false_iff_ne.2 (by omega)
          have h0I : (xn == 0) = true := beq_iff_eq.2 h0
          clear hn h0
          go_enter Tryz.func83, Tryz.ntmps83
          go_wp2_with (first | rw [← E1.out])
          go_ret
          exact ⟨by rw [HF.out]; rfl, B1.out⟩
        · have h0I : (xn == 0) = false := beq_eq_false_iff_ne.2 h0
          clear hn h0
          go_enter Tryz.func83, Tryz.ntmps83
          go_wp2_with (first | rw [← E1.out])
          go_ret
          exact ⟨by rw [HF.out]; rfl, B1.out⟩
    · by_cases hn : xn = 0 ∧ xp.length = 0
      · have HF : Hid ((prI ⟨5, xa, xn, xp⟩).isSome = true) := by show _ = _; rw [prI_sign (show (1 : Int) ≤ 5 by decide) (show (5 : Int) ≤ 5 by decide)]; exact some_if hn
        obtain ⟨rfl, hp⟩ := hn
        rw [hp] at q1 E1 HX ⊢
        obtain ⟨a0, a1, a2, a3⟩ := q1
        clear hl HL hp
        go_enter Tryz.func83, Tryz.ntmps83
        go_wp2_with (first | rw [← E1.out])
        go_ret
        exact ⟨by rw [HF.out]; rfl, B1.out⟩
      · have HF : Hid ((prI ⟨5, xa, xn, xp⟩).isSome = false) := by show _ = _; rw [prI_sign (show (1 : Int) ≤ 5 by decide) (show (5 : Int) ≤ 5 by decide)]; exact none_if hn
        rw [hl] at q1 E1 HX hn ⊢
        obtain ⟨a0, a1, a2, a3⟩ := q1
        by_cases h0 : xn = 0
        · have hl0 : ((l : Int) == 0) = false := beq_eq_false_iff_ne.2 (by omega)
          have h0I : (xn == 0) = true := beq_iff_eq.2 h0
          clear hn h0
          go_enter Tryz.func83, Tryz.ntmps83
          go_wp2_with (first | rw [← E1.out])
          go_ret
          exact ⟨by rw [HF.out]; rfl, B1.out⟩
        · have h0I : (xn == 0) = false := beq_eq_false_iff_ne.2 h0
          clear hn h0
          go_enter Tryz.func83, Tryz.ntmps83
          go_wp2_with (first | rw [← E1.out])
          go_ret
          exact ⟨by rw [HF.out]; rfl, B1.out⟩
    · by_cases hn : 0 ≤ xn ∧ xn ≤ 1000000 ∧ xp.length = 0
      · have HF : Hid ((prI ⟨6, xa, xn, xp⟩).isSome = true) := by show _ = _; rw [prI_num (.inl rfl)]; exact some_if hn
        obtain ⟨h1, h2, hp⟩ := hn
        rw [hp] at q1 E1 HX ⊢
        obtain ⟨a0, a1, a2, a3⟩ := q1
        clear hl HL hp
        go_enter Tryz.func83, Tryz.ntmps83
        go_wp2_with (first | rw [← E1.out])
        go_ret
        exact ⟨by rw [HF.out]; rfl, B1.out⟩
      · have HF : Hid ((prI ⟨6, xa, xn, xp⟩).isSome = false) := by show _ = _; rw [prI_num (.inl rfl)]; exact none_if hn
        rw [hl] at q1 E1 HX hn ⊢
        obtain ⟨a0, a1, a2, a3⟩ := q1
        by_cases h1 : 0 ≤ xn
        · by_cases h2 : xn ≤ 1000000
          · have hl0 : ((l : Int) == 0) = false := beq_eq_false_iff_ne.2 (by omega)
            clear hn
            go_enter Tryz.func83, Tryz.ntmps83
            go_wp2_with (first | rw [← E1.out])
            go_ret
            exact ⟨by rw [HF.out]; rfl, B1.out⟩
          · clear hn
            go_enter Tryz.func83, Tryz.ntmps83
            go_wp2_with (first | rw [← E1.out])
            go_ret
            exact ⟨by rw [HF.out]; rfl, B1.out⟩
        · clear hn
          go_enter Tryz.func83, Tryz.ntmps83
          go_wp2_with (first | rw [← E1.out])
          go_ret
          exact ⟨by rw [HF.out]; rfl, B1.out⟩
    · by_cases hn : 0 ≤ xn ∧ xn ≤ 1000000 ∧ xp.length = 0
      · have HF : Hid ((prI ⟨7, xa, xn, xp⟩).isSome = true) := by show _ = _; rw [prI_num (.inr rfl)]; exact some_if hn
        obtain ⟨h1, h2, hp⟩ := hn
        rw [hp] at q1 E1 HX ⊢
        obtain ⟨a0, a1, a2, a3⟩ := q1
        clear hl HL hp
        go_enter Tryz.func83, Tryz.ntmps83
        go_wp2_with (first | rw [← E1.out])
        go_ret
        exact ⟨by rw [HF.out]; rfl, B1.out⟩
      · have HF : Hid ((prI ⟨7, xa, xn, xp⟩).isSome = false) := by show _ = _; rw [prI_num (.inr rfl)]; exact none_if hn
        rw [hl] at q1 E1 HX hn ⊢
        obtain ⟨a0, a1, a2, a3⟩ := q1
        by_cases h1 : 0 ≤ xn
        · by_cases h2 : xn ≤ 1000000
          · have hl0 : ((l : Int) == 0) = false := beq_eq_false_iff_ne.2 (by omega)
            clear hn
            go_enter Tryz.func83, Tryz.ntmps83
            go_wp2_with (first | rw [← E1.out])
            go_ret
            exact ⟨by rw [HF.out]; rfl, B1.out⟩
          · clear hn
            go_enter Tryz.func83, Tryz.ntmps83
            go_wp2_with (first | rw [← E1.out])
            go_ret
            exact ⟨by rw [HF.out]; rfl, B1.out⟩
        · clear hn
          go_enter Tryz.func83, Tryz.ntmps83
          go_wp2_with (first | rw [← E1.out])
          go_ret
          exact ⟨by rw [HF.out]; rfl, B1.out⟩
    · have HF : Hid ((prI ⟨8, xa, xn, xp⟩).isSome = (decide (xn = 0) && rgt (at' xp) xp.length 0)) := by
        show _ = _
        rw [prI_pat rfl]
        by_cases h0 : xn = 0
        · cases hr : rgt (at' xp) xp.length 0 with
          | true => rw [some_if ⟨h0, rfl⟩, decide_eq_true h0]; rfl
          | false => rw [none_if (by rintro ⟨_, h⟩; cases h), decide_eq_true h0]; rfl
        · rw [none_if (fun h => h0 h.1), decide_eq_false h0]; rfl
      obtain ⟨a0, a1, a2, a3⟩ := q1
      by_cases h0 : xn = 0
      · subst h0
        have CR : Hid _ := right_any (at' xp) xp.length xc xo 0 w1 HX.out
        have HF2 : Hid ((prI ⟨8, xa, 0, xp⟩).isSome = rgt (at' xp) xp.length 0) := by show _ = _; rw [HF.out]; rfl
        rw [hl] at CR HF2 a3 E1 ⊢
        generalize rgt (at' xp) l 0 = r at *
        go_enter Tryz.func83, Tryz.ntmps83
        go_wp2_with (first | rw [← E1.out])
        refine Calls.mono CR.out ?_; rintro e w2 ⟨rfl, b2⟩
        have B2 : Hid (Below w.heap.size w w2) := B1.out.trans (b2.mono B1.out.size)
        clear b2
        go_wp2_with fail
        go_ret
        exact ⟨by rw [HF2.out]; rfl, B2.out⟩
      · have h0I : (xn == 0) = false := beq_eq_false_iff_ne.2 h0
        have HF2 : Hid ((prI ⟨8, xa, xn, xp⟩).isSome = false) := by show _ = _; rw [HF.out, decide_eq_false h0]; rfl
        rw [hl] at a3 E1 ⊢
        clear h0 HF
        go_enter Tryz.func83, Tryz.ntmps83
        go_wp2_with (first | rw [← E1.out])
        go_ret
        exact ⟨by rw [HF2.out]; rfl, B1.out⟩

/-- A token in a box on the way; the tables. -/
structure Pw (w wk : World) (xk xa xn : Int) (xo : Option Addr) (xp : List (Nat → Bool)) (xc : Nat) : Prop where
  bel : Below w.heap.size w wk
  k : K4 wk w.heap.size (.int .i64 xk) (.int .i64 xa) (.int .i64 xn) (.slice xo xp.length xc)
  lf : Lf wk xo xp.length (at' xp)
  tb : TabB wk
  tx : TabX wk

theorem Pw.grow {w wk v : World} {xk xa xn : Int} {xo : Option Addr} {xp : List (Nat → Bool)} {xc : Nat} (h : Pw w wk xk xa xn xo xp xc) (b : Below wk.heap.size wk v) : Pw w v xk xa xn xo xp xc :=
  ⟨h.bel.trans (b.mono h.bel.size), h.k.keep b, h.lf.grow b, h.tb.grow b, h.tx.grow b⟩

theorem sg_cut (k : Nat) (h1 : 1 ≤ k) (h8 : k ≤ 8) : (⟨#[40, 41, 38, 124, 33, 62, 126, 34]⟩ : ByteArray).extract (k - 1) k = tbs [sg8 k] := by
  have h := knT_cut (k - 1) (by omega)
  rw [show k - 1 + 1 = k by omega] at h
  exact h

set_option maxRecDepth 100000 in
set_option maxHeartbeats 4000000 in
theorem print_any (x : Tv) (w : World) (hx : x.ok w) (hT : TabB w) (hX : TabX w) :
    Calls Tryz.prog 72 #[x.val] w fun e w' => Rdx (prI x.i) e ∧ Below w.heap.size w w' := by
  obtain ⟨⟨xk, xa, xn, xp⟩, xo, xc⟩ := x
  have CR : Hid _ := fun (v : World) (hv : Below w.heap.size w v) => right13_any ⟨⟨xk, xa, xn, xp⟩, xo, xc⟩ v (hx.grow hv)
  unfold Tv.ok at hx
  simp only at hx
  unfold Tv.val at CR ⊢
  simp only at CR ⊢
  obtain ⟨w1, e1⟩ : ∃ w1, w1 = w.alloc (.cells #[.int .i64 xk, .int .i64 xa, .int .i64 xn, .slice xo xp.length xc] 76) := ⟨_, rfl⟩
  have b1 : Below w.heap.size w w1 := by rw [e1]; exact al_below _ _
  have q1 : K4 w1 w.heap.size (.int .i64 xk) (.int .i64 xa) (.int .i64 xn) (.slice xo xp.length xc) := by rw [e1]; exact k4_new _ _ _ _ _ _
  have D1 : Hid (Pw w w1 xk xa xn xo xp xc) := ⟨b1, q1, hx.grow b1, hT.grow b1, hX.grow b1⟩
  have E1 : Hid _ := e1
  have C1 : Hid _ := CR.out w1 b1
  clear e1 b1 q1 hx hT hX CR
  obtain ⟨a0, a1, a2, a3⟩ := D1.out.k
  cases hp : prI ⟨xk, xa, xn, xp⟩ with
  | none =>
    rw [hp] at C1
    go_enter Tryz.func72, Tryz.ntmps72
    go_wp2_with (first | rw [← E1.out])
    refine Calls.mono C1.out ?_; rintro e w2 ⟨rfl, b2⟩
    have D2 : Hid (Pw w w2 xk xa xn xo xp xc) := D1.out.grow b2
    clear b2
    go_wp2_with fail
    refine bodyPost_ret (results_tmp2 rfl _ _ _) rfl ?_
    exact ⟨rfl, D2.out.bel⟩
  | some T0 =>
    rw [hp] at C1
    have hk1 : 1 ≤ xk := by
      rcases Int.lt_or_le xk 1 with h | h
      · rw [prI_out (.inl h)] at hp; cases hp
      · exact h
    have hk8 : xk ≤ 8 := by
      rcases Int.lt_or_le 8 xk with h | h
      · rw [prI_out (.inr h)] at hp; cases hp
      · exact h
    obtain ⟨k, rfl⟩ : ∃ k : Nat, xk = (k : Int) := ⟨xk.toNat, by omega⟩
    have hcut := sg_cut k (by omega) (by omega)
    have hn1 : ((k : Int) - 1).toNat = k - 1 := by omega
    have hn2 : ((k : Int)).toNat = k := by omega
    have hwk : IntKind.i64.wrap ((k : Int) - 1) = (k : Int) - 1 := by rw [IntKind.wrap_i64]; omega
    have hb1 : (0 : Int) ≤ (k : Int) - 1 := by omega
    have hb2 : (k : Int) - 1 ≤ (k : Int) := by omega
    have hb3 : (k : Int) ≤ 8 := by omega
    by_cases h67 : k = 6 ∨ k = 7
    · rw [prI_num (show (k : Int) = 6 ∨ (k : Int) = 7 by omega)] at hp
      simp only [Int.toNat_natCast] at hp
      by_cases hc : 0 ≤ xn ∧ xn ≤ 1000000 ∧ xp.length = 0
      · rw [if_pos hc] at hp
        obtain ⟨n, rfl⟩ : ∃ n : Nat, xn = (n : Int) := ⟨xn.toNat, by omega⟩
        have HT0 : Hid (T0 = [sg8 k] ++ dgs n) := by
          show _ = _
          have := Option.some.inj hp
          rw [← this]
          simp
        have hd7 := dgs_le7 (show n ≤ 1000000 by omega)
        have AD := add_tbs [sg8 k] (dgs n) (by simp; omega)
        have CI : Hid _ := fun (v : World) (hv : TabX v) => itoa_any n (by omega) v hv
        have HFT : Hid (tbs T0 = tbs ([sg8 k] ++ dgs n)) := by show _ = _; rw [HT0.out]
        have HLE : Hid _ := hcut
        have hks : (((k : Int) == 6) = true) ∨ (((k : Int) == 6) = false ∧ ((k : Int) == 7) = true) := by
          rcases h67 with h | h
          · exact .inl (beq_iff_eq.2 (by omega))
          · exact .inr ⟨beq_eq_false_iff_ne.2 (by omega), beq_iff_eq.2 (by omega)⟩
        generalize tbs ([sg8 k] ++ dgs n) = t3 at *
        generalize tbs (dgs n) = t2 at *
        generalize tbs [sg8 k] = t1 at *
        clear hp HT0 hc h67
        rcases hks with h6I | ⟨h6I, h7I⟩
        all_goals
          go_enter Tryz.func72, Tryz.ntmps72
          go_wp2_with (first | rw [← E1.out])
          refine Calls.mono C1.out ?_; rintro e w2 ⟨rfl, b2⟩
          have D2 : Hid (Pw w w2 (k : Int) xa (n : Int) xo xp xc) := D1.out.grow b2
          clear b2 a0 a1 a2 a3
          obtain ⟨a0, a1, a2, a3⟩ := D2.out.k
          go_wp2_with (first | rw [hn1] | rw [hn2] | rw [hcut])
          refine Calls.mono (CI.out w2 D2.out.tx) ?_; rintro e w3 ⟨rfl, b3⟩
          have D3 : Hid (Pw w w3 (k : Int) xa (n : Int) xo xp xc) := D2.out.grow b3
          clear b3
          go_wp2_with fail
          refine bodyPost_ret (results_tmp2 rfl _ _ _) rfl ?_
          exact ⟨by unfold Rdx; show _ = Ending.returned (.tuple #[.string (tbs T0), .bool true]); rw [HFT.out]; rfl, D3.out.bel⟩
      · rw [if_neg hc] at hp
        cases hp
    · have h6I : ((k : Int) == 6) = false := beq_eq_false_iff_ne.2 (by omega)
      have h7I : ((k : Int) == 7) = false := beq_eq_false_iff_ne.2 (by omega)
      by_cases h8 : k = 8
      · rw [prI_pat (show (k : Int) = 8 by omega)] at hp
        simp only at hp
        have h8I : ((k : Int) == 8) = true := beq_iff_eq.2 (by omega)
        by_cases hc : xn = 0 ∧ rgt (at' xp) xp.length 0 = true
        · rw [if_pos hc] at hp
          have hlen := (rgt_len hc.2)
          have HT0 : Hid (T0 = (34 :: eTx xp) ++ [34]) := by
            show _ = _
            have := Option.some.inj hp
            rw [← this]
            simp
          have HSG : Hid (tbs [sg8 k] = tbs (34 :: eTx (xp.take 0))) := by show _ = _; rw [h8]; rfl
          obtain ⟨n, hn⟩ : ∃ n, xp.length = n := ⟨_, rfl⟩
          have HN : Hid (xp.length = n) := hn
          have hn64 : n ≤ 64 := by omega
          clear hp hc h8 h67 hlen
          obtain ⟨t1, ht1⟩ : ∃ t1, tbs [sg8 k] = t1 := ⟨_, rfl⟩
          have HT1 : Hid _ := ht1
          rw [ht1] at hcut
          clear ht1
          rw [hn] at a3 E1 C1 ⊢
          clear hn
          go_enter Tryz.func72, Tryz.ntmps72
          go_wp2_with (first | rw [← E1.out])
          refine Calls.mono C1.out ?_; rintro e w2 ⟨rfl, b2⟩
          have D2 : Hid (Pw w w2 (k : Int) xa xn xo xp xc) := D1.out.grow b2
          clear b2 a0 a1 a2 a3
          obtain ⟨a0, a1, a2, a3⟩ := D2.out.k
          rw [HN.out] at a3
          go_wp2_with (first | rw [hn1] | rw [hn2] | rw [hcut])
          go_loopw [4, 33] (fun vt vk wr => Pw w wr k xa xn xo xp xc ∧ ∃ j : Nat, j ≤ n ∧ vk = .int .i64 (j : Int) ∧ vt = .string (tbs (34 :: eTx (xp.take j)))) (fun _ vk _ => n - (intOf vk).toNat)
          case atStart => exact ⟨D2.out, 0, Nat.zero_le _, rfl, by rw [← HSG.out, HT1.out]⟩
          case round =>
            obtain ⟨hD, j, hj, rfl, rfl⟩ := hrel
            have DR : Hid (Pw w wr k xa xn xo xp xc) := hD
            have hle := eTx_le (xp.take j)
            rw [List.length_take] at hle
            clear hD a0 a1 a2 a3
            by_cases hjn : j < n
            · have hjI : (j : Int) < (n : Int) := by omega
              have hjL : j < xp.length := by rw [HN.out]; exact hjn
              obtain ⟨g, o, rfl, _, hC⟩ := DR.out.lf.lies (by omega)
              obtain ⟨c0, c1, c2, c3⟩ := hC.four hjL
              obtain ⟨f, hf⟩ : ∃ f, at' xp j = f := ⟨_, rfl⟩
              rw [hf] at c0 c1 c2 c3
              have hget : xp[j] = f := by rw [← hf, at_get hjL]
              have CE : Hid _ := fun (v : World) (hv : TabB v) => elementS_any f v hv
              have h24 := elt_le f
              have AD := add_tbs (34 :: eTx (xp.take j)) ((elt f).getD []) (by simp; omega)
              have HT3 : Hid (tbs ((34 :: eTx (xp.take j)) ++ (elt f).getD []) = tbs (34 :: eTx (xp.take (j + 1)))) := by show _ = _; rw [eTx_take xp j hjL, hget]; rfl
              unfold Rdx at CE
              generalize tbs ((34 :: eTx (xp.take j)) ++ (elt f).getD []) = t3 at *
              generalize tbs (34 :: eTx (xp.take j)) = t at *
              generalize tbs ((elt f).getD []) = u at *
              clear hC hget hf
              obtain ⟨w5, e5⟩ : ∃ w5, w5 = wr.alloc (.cells #[.int .u64 ((wd (f) 0 : Nat) : Int), .int .u64 ((wd (f) 1 : Nat) : Int), .int .u64 ((wd (f) 2 : Nat) : Int), .int .u64 ((wd (f) 3 : Nat) : Int)] 67) := ⟨_, rfl⟩
              have b5 : Below wr.heap.size wr w5 := by rw [e5]; exact al_below _ _
              have D5 : Hid (Pw w w5 k xa xn (some ⟨g, o, none⟩) xp xc) := DR.out.grow b5
              have q5 : Kc w5 wr.heap.size f := by rw [e5]; exact k4_new _ _ _ _ _ _
              have E5 : Hid _ := e5
              obtain ⟨d0, d1, d2, d3⟩ := q5
              clear e5 b5 DR
              go_wp2_with (first | rw [← E5.out])
              refine Calls.mono (CE.out w5 D5.out.tb) ?_; rintro e w6 ⟨rfl, b6⟩
              have D6 : Hid (Pw w w6 k xa xn (some ⟨g, o, none⟩) xp xc) := D5.out.grow b6
              clear b6 d0 d1 d2 d3 E5 c0 c1 c2 c3 D5
              go_wp2_with fail
              go_roundw
              case rel => exact ⟨D6.out, j + 1, by omega, by go_num, by rw [← HT3.out]⟩
              case measure => simp [intOf]; omega
            · obtain rfl : j = n := by omega
              have e : xp.take j = xp := by rw [List.take_of_length_le (by rw [HN.out]; exact Nat.le_refl _)]
              rw [e] at hle ⊢
              have hl9 := eTx_le xp
              rw [HN.out] at hl9
              have AD := add_tbs (34 :: eTx xp) [34] (by simp; omega)
              rw [show tbs [34] = ⟨#[34]⟩ from rfl] at AD
              have HFT : Hid (tbs T0 = tbs ((34 :: eTx xp) ++ [34])) := by show _ = _; rw [HT0.out]
              generalize tbs ((34 :: eTx xp) ++ [34]) = t2 at *
              generalize tbs (34 :: eTx xp) = t at *
              clear e
              go_wp2_with fail
              refine bodyPost_ret (results_tmp2 rfl _ _ _) rfl ?_
              exact ⟨by unfold Rdx; show _ = Ending.returned (.tuple #[.string (tbs T0), .bool true]); rw [HFT.out]; rfl, DR.out.bel⟩
        · rw [if_neg hc] at hp
          cases hp
      · have h8I : ((k : Int) == 8) = false := beq_eq_false_iff_ne.2 (by omega)
        rw [prI_sign (show 1 ≤ (k : Int) by omega) (show (k : Int) ≤ 5 by omega)] at hp
        simp only [Int.toNat_natCast] at hp
        by_cases hc : xn = 0 ∧ xp.length = 0
        · rw [if_pos hc] at hp
          have HT0 : Hid (T0 = [sg8 k]) := by
            show _ = _
            have := Option.some.inj hp
            first | (rw [← this]; done) | (rw [← this]; simp)
          have HFT : Hid (tbs T0 = tbs [sg8 k]) := by show _ = _; rw [HT0.out]
          generalize tbs [sg8 k] = t1 at *
          clear hp HT0 hc h8 h67
          go_enter Tryz.func72, Tryz.ntmps72
          go_wp2_with (first | rw [← E1.out])
          refine Calls.mono C1.out ?_; rintro e w2 ⟨rfl, b2⟩
          have D2 : Hid (Pw w w2 (k : Int) xa xn xo xp xc) := D1.out.grow b2
          clear b2 a0 a1 a2 a3
          obtain ⟨a0, a1, a2, a3⟩ := D2.out.k
          go_wp2_with (first | rw [hn1] | rw [hn2] | rw [hcut])
          refine bodyPost_ret (results_tmp2 rfl _ _ _) rfl ?_
          exact ⟨by unfold Rdx; show _ = Ending.returned (.tuple #[.string (tbs T0), .bool true]); rw [HFT.out]; rfl, D2.out.bel⟩
        · rw [if_neg hc] at hp
          cases hp

end Cls

end Go.Proofs.YtbnnobeahliffaaGreatDoor
