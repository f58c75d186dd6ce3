/- The walk of 'beaglelaw13.TokenHead': it answers true; nothing that was there is turned. For the statement's proof. -/
import Derived.OpenShut
import Derived.ProofKit
import Derived.Test.YtljahelbbafhlaaDoorTkLw
namespace Go.Proofs.YtljahelbbafhlaaDoor.tokenHead
open Go.ChangeShapes Go.WideShapes Go.ChangeAt Go.RowKit Cls
set_option linter.unusedVariables false

theorem told (s : ByteArray) (hs : s.size ≤ 1000000) (w : World) : Calls Tryd.prog 10 #[.string s] w fun e w' => (∃ v, e = .returned (.tuple #[v, .int .i64 (lpl s : Nat), .int .i64 (lcd s : Nat)])) ∧ Below w.heap.size w w' :=
  (lex_any s hs w).mono fun e w' h => by
    obtain ⟨⟨v, L, rfl, _⟩, hb⟩ := h
    exact ⟨⟨v, rfl⟩, hb⟩

set_option maxHeartbeats 4000000 in
theorem walk (s u : ByteArray) (w : World) (hs : s.size ≤ maxLen) (hu : u.size ≤ maxLen) (hT : TabB w) (hX : TabX w) :
    Calls Tryd.prog 8 #[.string s, .string u] w fun e w' => e = .returned (.bool true) ∧ Below w.heap.size w w' := by
  have HT : Hid (Tx w w) := Tx.refl hT hX
  have CA : Hid _ := fun (v : World) (hv : TabB v) (hx : TabX v) => alive_any v hv hx
  clear hT hX
  by_cases hn : s.size ≤ 400 ∧ u.size ≤ 400
  · obtain ⟨hn1, hn2⟩ := hn
    have hnI : ¬ (400 : Int) < (s.size : Int) := by omega
    have hnJ : ¬ (400 : Int) < (u.size : Int) := by omega
    have C1 : Hid _ := told s (by omega) w
    by_cases hc : lcd s = 130
    · by_cases hp : lpl s < s.size
      · have hlex : lex1 s = .error (lpl s, 130) := by
          have h1 := hc
          cases hl : lex1 s with
          | ok L => rw [(lex_ok hl).2.1] at h1; omega
          | error r =>
            obtain ⟨a, b⟩ := r
            obtain ⟨h2, h3, _⟩ := lex_err hl
            rw [h2, ← h3, hc]
        obtain ⟨hA, hz⟩ := agr_cut s u (lpl s + 1) (by omega)
        have hlex2 := lex_err (lex_head hlex (by omega) hA)
        have C2 : Hid _ := fun (v : World) => told (s.extract 0 (lpl s + 1) ++ u) (by omega) v
        rw [hlex2.1, hlex2.2.1] at C2
        rw [hc] at C1
        have AD : ∀ w, (Op.stringOp .add (s.extract 0 (lpl s + 1)) u).run Tryd.prog w = .ok (.string (s.extract 0 (lpl s + 1) ++ u)) w := fun w => run_string_add_sum (P := Tryd.prog) (w := w) _ _ (by rw [← ByteArray.size_append]; omega)
        obtain ⟨p, hpp⟩ : ∃ p, lpl s = p := ⟨_, rfl⟩
        rw [hpp] at C1 C2 AD hp
        clear hlex hlex2 hA hz hpp hc
        have hw1 : IntKind.i64.wrap ((p : Int) + 1) = (p : Int) + 1 := by rw [IntKind.wrap_i64]; omega
        have hlt : (p : Int) < (s.size : Int) := by omega
        have hge : ¬ (s.size : Int) ≤ (p : Int) := by omega
        have hb0 : (0 : Int) ≤ (p : Int) + 1 := by omega
        have hb1 : (p : Int) + 1 ≤ (s.size : Int) := by omega
        have hto : ((p : Int) + 1).toNat = p + 1 := by omega
        generalize s.extract 0 (p + 1) ++ u = y at *
        obtain ⟨x, hx⟩ : ∃ x, s.extract 0 (p + 1) = x := ⟨_, rfl⟩
        rw [hx] at AD
        go_enter Tryd.func8, Tryd.ntmps8
        go_wp2_with fail
        refine Calls.mono C1.out ?_; rintro e w1 ⟨⟨v1, rfl⟩, b1⟩
        have T1 : Hid (Tx w w1) := Tx.grow HT.out b1
        clear b1 HT C1
        go_wp2_with (first | rw [hto] | rw [hx])
        refine Calls.mono (C2.out w1) ?_; rintro e w2 ⟨⟨v2, rfl⟩, b2⟩
        have T2 : Hid (Tx w w2) := Tx.grow T1.out b2
        clear b2 T1 C2
        go_wp2_with fail
        refine Calls.mono (CA.out w2 T2.out.tab T2.out.tx) ?_; rintro e w3 ⟨rfl, b3⟩
        have T3 : Hid (Tx w w3) := Tx.grow T2.out b3
        clear b3 T2 CA
        go_wp2_with fail
        go_ret
        exact ⟨rfl, T3.out.bel⟩
      · rw [hc] at C1
        have hlt : ¬ ((lpl s : Nat) : Int) < (s.size : Int) := by omega
        have hge : (s.size : Int) ≤ ((lpl s : Nat) : Int) := by omega
        generalize lpl s = p at *
        clear hp hc
        go_enter Tryd.func8, Tryd.ntmps8
        go_wp2_with fail
        refine Calls.mono C1.out ?_; rintro e w1 ⟨⟨v1, rfl⟩, b1⟩
        have T1 : Hid (Tx w w1) := Tx.grow HT.out b1
        clear b1 HT C1
        go_wp2_with fail
        refine Calls.mono (CA.out w1 T1.out.tab T1.out.tx) ?_; rintro e w3 ⟨rfl, b3⟩
        have T3 : Hid (Tx w w3) := Tx.grow T1.out b3
        clear b3 T1 CA
        go_wp2_with fail
        go_ret
        exact ⟨rfl, T3.out.bel⟩
    · have hcI : (((lcd s : Nat) : Int) != 130) = true := by
        have h2 : ¬ ((lcd s : Nat) : Int) = 130 := by omega
        simpa using h2
      generalize lpl s = p at *
      generalize lcd s = c at *
      clear hc
      go_enter Tryd.func8, Tryd.ntmps8
      go_wp2_with fail
      refine Calls.mono C1.out ?_; rintro e w1 ⟨⟨v1, rfl⟩, b1⟩
      have T1 : Hid (Tx w w1) := Tx.grow HT.out b1
      clear b1 HT C1
      go_wp2_with fail
      refine Calls.mono (CA.out w1 T1.out.tab T1.out.tx) ?_; rintro e w3 ⟨rfl, b3⟩
      have T3 : Hid (Tx w w3) := Tx.grow T1.out b3
      clear b3 T1 CA
      go_wp2_with fail
      go_ret
      exact ⟨rfl, T3.out.bel⟩
  · have hb : (400 : Int) < (s.size : Int) ∨ (¬ (400 : Int) < (s.size : Int) ∧ (400 : Int) < (u.size : Int)) := by omega
    clear hn
    rcases hb with hnI | ⟨hnI, hnJ⟩
    all_goals
      go_enter Tryd.func8, Tryd.ntmps8
      go_wp2_with fail
      refine Calls.mono (CA.out w HT.out.tab HT.out.tx) ?_; rintro e w1 ⟨rfl, b1⟩
      have T1 : Hid (Tx w w1) := Tx.grow HT.out b1
      clear b1 HT CA
      go_wp2_with fail
      go_ret
      exact ⟨rfl, T1.out.bel⟩

end Go.Proofs.YtljahelbbafhlaaDoor.tokenHead
