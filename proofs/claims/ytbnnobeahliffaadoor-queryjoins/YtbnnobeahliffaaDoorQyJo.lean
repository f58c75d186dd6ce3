/- Parse of texts of any size. -/
import Derived.Test.YtbnnobeahliffaaDoorQyE
import Derived.Test.YtbnnobeahliffaaDoorTkRd8
set_option linter.unusedVariables false
namespace Go.Proofs.YtbnnobeahliffaaDoor
open Go.RowKit
namespace Cls

theorem lexq_big (s : ByteArray) (h : 1000 < s.size) (w : World) : Calls Tryd.prog 33 #[.string s] w fun e w' => e = .returned (.tuple #[.slice none 0 0, .int .i64 1000, .int .i64 135]) ∧ Below w.heap.size w w' := by
  have hbI : (1000 : Int) < (s.size : Int) := by omega
  go_enter Tryd.func33, Tryd.ntmps33
  go_wp2_with fail
  go_step3
  go_wp2_with fail
  try simp only [Exit.noGoto]
  refine bodyPost_ret (results_tmp3 rfl _ _ _) rfl ?_
  exact ⟨rfl, Below.refl _ _⟩

theorem qpar_big {s : ByteArray} (h : 1000 < s.size) : qpar s = ([], 1000, 135) := by
  have hx := lex_err (show lex1 s = .error (1000, 135) by unfold lex1; rw [if_pos h])
  unfold qpar
  rw [if_pos (by rw [hx.2.1]; decide), hx.1, hx.2.1]

set_option maxRecDepth 100000 in
set_option maxHeartbeats 4000000 in
theorem qparse_all (s : ByteArray) (w : World) :
    Calls Tryd.prog 21 #[.string s] w fun e w' => Prs s w' w.heap.size e ∧ Below w.heap.size w w' := by
  by_cases hs : s.size ≤ 1000000
  · exact qparse_any s hs w
  · have CL : Hid _ := lexq_big s (by omega) w
    unfold Prs
    rw [qpar_big (by omega)]
    clear hs
    go_enter Tryd.func21, Tryd.ntmps21
    go_wp2_with fail
    refine Calls.mono CL.out ?_; rintro e w1 ⟨rfl, b1⟩
    have B1 : Hid (Below w.heap.size w w1) := b1
    clear b1 CL
    go_wp2_with fail
    try simp only [Exit.noGoto]
    refine bodyPost_ret (results_tmp3 rfl _ _ _) rfl ?_
    exact ⟨⟨none, 0, 0, rfl, [], rfl, oq_nil _ _ _, rfl⟩, B1.out⟩

end Cls
end Go.Proofs.YtbnnobeahliffaaDoor
