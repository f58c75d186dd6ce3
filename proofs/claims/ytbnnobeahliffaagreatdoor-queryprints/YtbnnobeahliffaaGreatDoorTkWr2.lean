/- Contracts of token.writtenRun and token.Element: a class's text. -/
import Derived.Test.YtbnnobeahliffaaGreatDoorTkWr1
import Derived.Test.YtbnnobeahliffaaGreatDoorClsB
import Derived.Test.YtbnnobeahliffaaGreatDoorLfA
import Derived.Test.YtbnnobeahliffaaGreatDoorTkMore
import Derived.Deep.RegionHeld3
set_option linter.unusedVariables false
namespace Go.Proofs.YtbnnobeahliffaaGreatDoor
open Go.RowKit
namespace Cls

theorem add_tbs (L M : List Nat) (h : L.length + M.length ≤ 1000000) (w : World) : (Op.stringOp .add (tbs L) (tbs M)).run Tryz.prog w = .ok (.string (tbs (L ++ M))) w := by
  rw [run_string_add_sum (P := Tryz.prog) (w := w) _ _ (by rw [tbs_size, tbs_size]; omega), tbs_app]

theorem wrt_le (b : Nat) (A : List Nat) : (wrt b A).length ≤ 4 := by
  unfold wrt
  split
  · simp
  · split <;> simp

theorem run1_le (r : Nat × Nat) : (run1 r).length ≤ 9 := by
  have h1 := wrt_le r.1 aptC
  have h2 := wrt_le r.2 aptC
  unfold run1
  rw [List.length_append, List.length_append]
  split <;> split <;> simp <;> omega

theorem runs1_le : ∀ (L : List (Nat × Nat)), (runs1 L).length ≤ 9 * L.length
  | [] => by simp [runs1]
  | r :: L => by
    have h1 := run1_le r
    have h2 := runs1_le L
    have e : runs1 (r :: L) = run1 r ++ runs1 L := List.flatMap_cons
    rw [e, List.length_append, List.length_cons]
    omega

theorem runs1_take (L : List (Nat × Nat)) (k : Nat) (hk : k < L.length) : runs1 (L.take (k + 1)) = runs1 (L.take k) ++ run1 L[k] := by
  rw [List.take_succ_eq_append_getElem hk]
  unfold runs1
  rw [List.flatMap_append]
  simp

set_option maxRecDepth 100000 in
set_option maxHeartbeats 2000000 in
theorem writtenRun_any (a b : Nat) (hab : a ≤ b) (hb : b < 256) (w : World) :
    Calls Tryz.prog 106 #[.int .u8 (a : Int), .int .u8 (b : Int)] w fun e w' => e = .returned (.string (tbs (run1 (a, b)))) ∧ Below w.heap.size w w' := by
  have CA : Hid _ := fun (v : World) => written_any itT aptC (fun b hb => fpos_it hb) a (by omega) v
  have CB : Hid _ := fun (v : World) => written_any itT aptC (fun b hb => fpos_it hb) b hb v
  unfold itT at CA CB
  have la := wrt_le a aptC
  have lb := wrt_le b aptC
  by_cases h : a = b
  · subst h
    have hI : ((a : Int) == (a : Int)) = true := beq_self_eq_true _
    have HF : Hid (run1 (a, a) = wrt a aptC) := by
      show _ = _
      unfold run1
      simp
    rw [HF.out]
    generalize tbs (wrt a aptC) = t at *
    go_enter Tryz.func106, Tryz.ntmps106
    go_wp2_with fail
    refine Calls.mono (CA.out w) ?_; rintro e w2 ⟨rfl, b2⟩
    have B2 : Hid _ := b2
    clear b2
    go_wp2_with fail
    go_ret
    exact ⟨rfl, B2.out⟩
  · have hI : ((a : Int) == (b : Int)) = false := beq_eq_false_iff_ne.2 (by omega)
    have hwd : IntKind.u8.wrap ((b : Int) - (a : Int)) = (b : Int) - (a : Int) := by rw [IntKind.wrap_u8]; omega
    by_cases h1 : a + 1 < b
    · have h1I : 1 < (b : Int) - (a : Int) := by omega
      have HF : Hid (run1 (a, b) = (wrt a aptC ++ [45]) ++ wrt b aptC) := by
        show _ = _
        unfold run1
        simp only
        rw [if_pos h1, if_pos (by omega)]
        simp
      have A1 := add_tbs (wrt a aptC) [45] (by simp; omega)
      have A2 := add_tbs (wrt a aptC ++ [45]) (wrt b aptC) (by simp; omega)
      rw [show tbs [45] = ⟨#[45]⟩ from rfl] at A1
      rw [HF.out]
      generalize tbs (wrt a aptC ++ [45] ++ wrt b aptC) = t3 at *
      generalize tbs (wrt a aptC ++ [45]) = t2 at *
      generalize tbs (wrt a aptC) = t at *
      generalize tbs (wrt b aptC) = u at *
      clear h hab
      go_enter Tryz.func106, Tryz.ntmps106
      go_wp2_with fail
      refine Calls.mono (CA.out w) ?_; rintro e w2 ⟨rfl, b2⟩
      have B2 : Hid _ := b2
      clear b2
      go_wp2_with fail
      refine Calls.mono (CB.out w2) ?_; rintro e w3 ⟨rfl, b3⟩
      have B3 : Hid (Below w.heap.size w w3) := B2.out.trans (b3.mono B2.out.size)
      clear b3
      go_wp2_with fail
      go_ret
      exact ⟨rfl, B3.out⟩
    · have h1I : ¬ 1 < (b : Int) - (a : Int) := by omega
      have HF : Hid (run1 (a, b) = wrt a aptC ++ wrt b aptC) := by
        show _ = _
        unfold run1
        simp only
        rw [if_neg h1, if_pos (by omega)]
        simp
      have A2 := add_tbs (wrt a aptC) (wrt b aptC) (by omega)
      rw [HF.out]
      generalize tbs (wrt a aptC ++ wrt b aptC) = t3 at *
      generalize tbs (wrt a aptC) = t at *
      generalize tbs (wrt b aptC) = u at *
      clear h hab
      go_enter Tryz.func106, Tryz.ntmps106
      go_wp2_with fail
      refine Calls.mono (CA.out w) ?_; rintro e w2 ⟨rfl, b2⟩
      have B2 : Hid _ := b2
      clear b2
      go_wp2_with fail
      refine Calls.mono (CB.out w2) ?_; rintro e w3 ⟨rfl, b3⟩
      have B3 : Hid (Below w.heap.size w w3) := B2.out.trans (b3.mono B2.out.size)
      clear b3
      go_wp2_with fail
      go_ret
      exact ⟨rfl, B3.out⟩

/-- A row of pairs, read in a world that has grown. -/
theorem ownP_read {w : World} {B : Nat} {v : Value} {L : List (Nat × Nat)} (h : OwnP w B v L) : ∃ ao c, v = .slice ao L.length c ∧ ∀ wr, Below w.heap.size w wr → ∀ k, (hk : k < L.length) → ∃ g, ao = some ⟨g, 0, none⟩ ∧ wr.cell? ⟨g, k * 2, none⟩ = some (.int .u8 (L[k].1 : Int)) ∧ wr.cell? ⟨g, k * 2 + 1, none⟩ = some (.int .u8 (L[k].2 : Int)) := by
  by_cases hn : 1 ≤ L.length
  · obtain ⟨g, cap, hv, _, hlt, hc, _⟩ := ownP_mem h hn
    refine ⟨_, cap, hv, fun wr hb k hk => ⟨g, rfl, ?_, ?_⟩⟩
    · rw [show k * 2 = 2 * k by omega]; exact (hb.cell (p := ⟨g, 2 * k, none⟩) hlt).trans (hc k hk).1
    · rw [show k * 2 = 2 * k by omega]; exact (hb.cell (p := ⟨g, 2 * k + 1, none⟩) hlt).trans (hc k hk).2
  · obtain ⟨ao, c, hv⟩ := ownP_slice h
    exact ⟨ao, c, hv, fun wr hb k hk => by omega⟩

/-- What is told of a class's text. -/
def eltt (f : Nat → Bool) : ByteArray := tbs ((elt f).getD [])

theorem elt_full {f : Nat → Bool} (h : sm f (fun _ => true) = true) : elt f = some [63] := by
  have h2 : cb f 0 256 = 256 := by
    have h1 : fr f = true := h
    rw [fr_size] at h1
    simpa using h1
  unfold elt
  rw [if_neg (by omega), if_pos h2]

theorem elt_not {f : Nat → Bool} (h : sm f (fun _ => true) = false) : cb f 0 256 ≠ 256 := by
  intro e
  have h1 : fr f = false := h
  rw [fr_size, e] at h1
  cases h1

end Cls
end Go.Proofs.YtbnnobeahliffaaGreatDoor
