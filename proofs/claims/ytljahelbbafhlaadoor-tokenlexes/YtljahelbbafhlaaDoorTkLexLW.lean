/- The walk of 'beaglelaw13.TokenLexes': it answers true; nothing that was there is turned. For the statement's proof. -/
import Derived.OpenShut
import Derived.ProofKit
import Derived.Test.YtljahelbbafhlaaDoorTkLw
import Derived.Test.YtljahelbbafhlaaDoorTkC
import Derived.Test.YtljahelbbafhlaaDoorTkD
namespace Go.Proofs.YtljahelbbafhlaaDoor.tokenLexes
open Go.ChangeShapes Go.WideShapes Go.ChangeAt Go.RowKit Cls
set_option linter.unusedVariables false

set_option maxHeartbeats 4000000 in
theorem walk (s : ByteArray) (w : World) (hs : s.size ≤ maxLen) (hT : TabB w) (hX : TabX w) :
    Calls Tryd.prog 3 #[.string s] w fun e w' => e = .returned (.bool true) ∧ Below w.heap.size w w' := by
  have HT : Hid (Tx w w) := Tx.refl hT hX
  have CA : Hid _ := fun (v : World) (hv : TabB v) (hx : TabX v) => alive_any v hv hx
  clear hT hX
  by_cases hn : s.size ≤ 1100
  · have hnI : ¬ (1100 : Int) < (s.size : Int) := by omega
    have C1 : Hid _ := lex_any s (by omega) w
    have C2 : Hid _ := fun (v : World) => lex13_any s (by omega) v
    have hp := lpl_le s
    have hp0 : (0 : Int) ≤ ((lpl s : Nat) : Int) := by omega
    have hp1 : ((lpl s : Nat) : Int) ≤ (s.size : Int) := by omega
    generalize lpl s = p at *
    generalize lcd s = c at *
    have HLL : Hid (∀ L : List Tv, L.map Tv.i = (lls s).map Tk.i → L.length ≤ s.size + 1) := fun L h => lls_len h
    generalize lls s = Y at *
    clear hp
    go_enter Tryd.func3, Tryd.ntmps3
    go_wp2_with fail
    refine Calls.mono C1.out ?_; rintro e w1 ⟨⟨v1, L, rfl, ho, hl⟩, b1⟩
    have hlen := HLL.out L hl
    obtain ⟨so, sc, rfl, ht⟩ := ho.tr (by omega)
    obtain ⟨n, hn2⟩ : ∃ n, L.length = n := ⟨_, rfl⟩
    have T1 : Hid (Tx w w1) := Tx.grow HT.out b1
    have TR1 : Hid (TR w1 so L) := ht
    have HL1 : Hid (L.map Tv.i = Y.map Tk.i) := hl
    have HN : Hid (L.length = n) := hn2
    have hn3 : n ≤ 1000000 := by omega
    rw [hn2]
    clear b1 HT C1 ho hl ht hlen hn2
    go_wp2_with fail
    refine Calls.mono (C2.out w1) ?_; rintro e w2 ⟨⟨v2, M, rfl, ho, hl⟩, b2⟩
    have hlen := HLL.out M hl
    obtain ⟨qo, qc, rfl, ht⟩ := ho.tr (by omega)
    have hm2 : M.length = n := by
      have h1 := congrArg List.length hl
      have h2 := congrArg List.length HL1.out
      simp only [List.length_map] at h1 h2
      have := HN.out
      omega
    have T2 : Hid (Tx w w2) := Tx.grow T1.out b2
    have TR2 : Hid (TR w2 so L) := TR.grow TR1.out b2
    have TM2 : Hid (TR w2 qo M) := ht
    have HAL : Hid (Alks L M) := Alks.of_eq (HL1.out.trans hl.symm)
    rw [hm2]
    clear b2 T1 C2 ho hl ht hlen hm2 TR1 HL1 HLL
    go_wp2_with fail
    refine Calls.mono (CA.out w2 T2.out.tab T2.out.tx) ?_; rintro e w3 ⟨rfl, b3⟩
    have T3 : Hid (Tx w w3) := Tx.grow T2.out b3
    have TR3 : Hid (TR w3 so L) := TR.grow TR2.out b3
    have TM3 : Hid (TR w3 qo M) := TR.grow TM2.out b3
    clear b3 T2 CA TR2 TM2
    go_wp2_with fail
    refine Calls.mono (olds_any n so sc L w3 HN.out hn3 TR3.out) ?_; rintro e w4 ⟨⟨v4, rfl, ho⟩, b4⟩
    obtain ⟨ro, rc, rfl, ht⟩ := ho.tr (by have := HN.out; omega)
    have T4 : Hid (Tx w w4) := Tx.grow T3.out b4
    have TM4 : Hid (TR w4 qo M) := TR.grow TM3.out b4
    have TR4 : Hid (TR w4 ro L) := ht
    rw [HN.out]
    clear b4 T3 TR3 TM3 ho ht
    go_wp2_with fail
    refine Calls.mono (same13_any n ro qo rc qc L M w4 HN.out TR4.out TM4.out HAL.out) ?_; rintro e w5 ⟨rfl, b5⟩
    have T5 : Hid (Tx w w5) := Tx.grow T4.out b5
    clear b5 T4 TR4 TM4
    go_wp2_with fail
    go_ret
    exact ⟨rfl, T5.out.bel⟩
  · have hnI : (1100 : Int) < (s.size : Int) := by omega
    clear hn
    go_enter Tryd.func3, Tryd.ntmps3
    go_wp2_with fail
    refine Calls.mono (CA.out w HT.out.tab HT.out.tx) ?_; rintro e w1 ⟨rfl, b1⟩
    have T1 : Hid (Tx w w1) := Tx.grow HT.out b1
    clear b1 HT CA
    go_wp2_with fail
    go_ret
    exact ⟨rfl, T1.out.bel⟩

end Go.Proofs.YtljahelbbafhlaaDoor.tokenLexes
