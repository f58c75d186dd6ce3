/- From the row's condition (the library's table reads as it was laid) to the cells that the walks read; a start that meets it; a class, a byte as parameters. -/
import Derived.Test.YtbnnobeahliffaaGreatDoorRows
import Derived.Test.YtbnnobeahliffaaGreatDoorTie
import Derived.Test.YtbnnobeahliffaaGreatDoorCards
import Derived.Test.YtbnnobeahliffaaGreatDoorClsA
import Derived.Test.YtbnnobeahliffaaGreatDoorArr
import Derived.ProofKit
import Derived.LaidMore
import Derived.OpenShut
import Derived.Lib.LaidTab
import Derived.Stop.Joined
namespace Go.Proofs.YtbnnobeahliffaaGreatDoor
open Go.ChangeShapes Go.WideShapes Go.ChangeAt Go.RowKit
namespace Cls

theorem own : ownKnob Tryz.prog.godebug = none := by kernel_rfl

theorem gTab : Tryz.prog.globalNamed "math/bits.deBruijn64tab" = some 2 := by kernel_rfl

theorem tTab : (Tryz.prog.globals[2]?).map (·.type) = some 158 := by kernel_rfl

theorem cellsB : Tryz.prog.cellsOf 5 = 1 := by kernel_rfl

theorem cellsT : Tryz.prog.cellsOf 158 = 64 := by kernel_rfl

/-- What the row lists (variable 2). -/
def laid1 : List (String × DataW Unit) := [("math/bits.deBruijn64tab", Rows.laid_math_bits_deBruijn64tab)]

theorem tab_of_laid {W : World} (h : laidMetH Tryz.prog laid1 W) : TabB W := by
  rw [MakeChecks.laidMetH_plain _ _ _ (by kernel_rfl)] at h
  have hT := Lib.tabIs_of_head (k := .u8) (zs := Lib.deBruijn64tab.map fun n : Nat => (n : Int)) (rest := []) gTab tTab Tryz.underlying158 Tryz.underlying5 cellsB cellsT h
  intro j hj
  have hl : (Lib.deBruijn64tab.map fun n : Nat => (n : Int)).length = 64 := by decide
  have hl2 : Lib.deBruijn64tab.length = 64 := by decide
  rw [hT.cell gTab j (by omega)]
  simp [List.getD, hl2, hj]

theorem door_met (os : Os) (args : Array Value) : laidMetH Tryz.prog laid1 ((World.doorLaid Tryz.prog 400 os).forCall (fun _ _ => 0) ⟨#[], args, []⟩).memory :=
  laidMetH_of_parts3 (fuel := 8) (laidMet_of_run' 8 (by kernel_rfl) (by kernel_rfl)) (by kernel_rfl) (by kernel_rfl)

theorem byte_of {a : Int} (h : (Lit.int .u8 a).wf = true) : ∃ b : Nat, b < 256 ∧ (b : Int) = a := by
  obtain ⟨h0, h1⟩ := bounds_u8 h
  exact ⟨a.toNat, by omega, by omega⟩

theorem class_of {x y z u : Int} (h0 : (Lit.int .u64 x).wf = true) (h1 : (Lit.int .u64 y).wf = true) (h2 : (Lit.int .u64 z).wf = true) (h3 : (Lit.int .u64 u).wf = true) :
    ∃ f : Nat → Bool, ((wd f 0 : Nat) : Int) = x ∧ ((wd f 1 : Nat) : Int) = y ∧ ((wd f 2 : Nat) : Int) = z ∧ ((wd f 3 : Nat) : Int) = u := by
  obtain ⟨a0, b0⟩ := bounds_u64 h0
  obtain ⟨a1, b1⟩ := bounds_u64 h1
  obtain ⟨a2, b2⟩ := bounds_u64 h2
  obtain ⟨a3, b3⟩ := bounds_u64 h3
  exact ⟨st (r4 x y z u), st_wd (F := r4 x y z u) (k := 0) (show 0 ≤ x by omega) (show x < _ by omega), st_wd (F := r4 x y z u) (k := 1) (show 0 ≤ y by omega) (show y < _ by omega), st_wd (F := r4 x y z u) (k := 2) (show 0 ≤ z by omega) (show z < _ by omega), st_wd (F := r4 x y z u) (k := 3) (show 0 ≤ u by omega) (show u < _ by omega)⟩

section
variable {H : Type} {enc : TypeId × Value → H} {P : Program} {w : World} {base : Nat} {spare : Nat → Bool} {held : Bool}

theorem open_arr4 {r : Reach} {b0 : Nat} {t e : TypeId} {k : IntKind} {v : Value} {d : DataW H} {p : List MemPlace} (ht : P.underlying t = some (.array 4 e)) (he : P.underlying e = some (.int k)) (hce : P.cellsOf e = 1) (hct : P.cellsOf t = 4)
    (hv : Value.okWide P w r b0 t v) (h : DataW.Trod enc P w base spare held t v d p) :
    ∃ x y z u : Int, v = .agg #[.int k x, .int k y, .int k z, .int k u] ∧ d = .agg [.lit (.int k x), .lit (.int k y), .lit (.int k z), .lit (.int k u)] ∧ p = [] ∧ (Lit.int k x).wf = true ∧ (Lit.int k y).wf = true ∧ (Lit.int k z).wf = true ∧ (Lit.int k u).wf = true := by
  obtain ⟨zs, hl, rfl, rfl, rfl, hw⟩ := open_ints_arr ht he hce hct hv h
  match zs, hl, hw with
  | [x, y, z, u], _, hw => exact ⟨x, y, z, u, rfl, rfl, rfl, hw x (by simp), hw y (by simp), hw z (by simp), hw u (by simp)⟩

theorem shut_arr4 {t e : TypeId} {k : IntKind} {x y z u : Int} (ht : P.underlying t = some (.array 4 e)) (he : P.underlying e = some (.int k)) (hce : P.cellsOf e = 1) (hct : P.cellsOf t = 4) (hx : (Lit.int k x).wf = true) (hy : (Lit.int k y).wf = true) (hz : (Lit.int k z).wf = true) (hu : (Lit.int k u).wf = true) :
    DataW.Trod enc P w base spare held t (.agg #[.int k x, .int k y, .int k z, .int k u]) (.agg [.lit (.int k x), .lit (.int k y), .lit (.int k z), .lit (.int k u)]) [] :=
  ⟨2, by
    have r4 : List.range 4 = [0, 1, 2, 3] := rfl
    simp [DataW.trod, Value.cells, ht, he, hce, hct, hx, hy, hz, hu, r4]⟩

end

end Cls
end Go.Proofs.YtbnnobeahliffaaGreatDoor
