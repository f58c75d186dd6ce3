/- PROVED: 'beaglelaw10.WildValues' answers true for every input, and leaves its arguments as they were; the tables beagle/residue.primes and math/bits.deBruijn64tab are tied to the program's text (a tied card). No further condition. -/
import Derived.Test.YtbojmkkpgglhhaaDoorWdLaid
import Derived.Test.YtbojmkkpgglhhaaDoorLfOpen
import Derived.ChangeMaps5
import Derived.Test.YtbojmkkpgglhhaaDoorWdValLW
import Derived.ChangeOld
import Derived.Below
namespace Go.Proofs.YtbojmkkpgglhhaaDoor.wildValues
open Go.ChangeShapes Go.WideShapes Go.ChangeAt Go.RowKit Cls
set_option linter.unusedVariables false

theorem laidOut : laidOutB Tryd.prog = true := by kernel_rfl
set_option maxRecDepth 100000 in
theorem lifted (os : Os) (started : os.Started) (H : Type) (enc : TypeId × Value → H) :
    ReturnsInHanded {} Tryd.checked os 3 .any (fun w args => (Rows.wildValuesSpec.pre enc Tryd.prog Tryd.f3 [] false w args ∧ laidMetH Tryd.prog Two.laid2 w) ∧ sizedMet enc Tryd.prog Tryd.f3 (OpenSpec.ofChange Rows.wildValuesSpec) false w args)
      (Rows.wildValuesSpec.post enc Tryd.prog Tryd.f3 false true false false) := by
  refine returnsInHanded_of_change_and (C := Tryd.checked) (X := fun w _ => laidMetH Tryd.prog Two.laid2 w) (fun _ _ _ hh h => h.of_heap hh) Cls.own started (by kernel_rfl) Tryd.func3
    (ChangeSpec.witness_shaped (enc := enc) (C := Tryd.checked) (os := os) (X := fun w _ => laidMetH Tryd.prog Two.laid2 w) false (World.doorLaid Tryd.prog 400 os) #[.agg #[.int .u64 0, .int .u64 0, .int .u64 0, .int .u64 0], .agg #[.slice none 0 0, .int .i64 0]] 8 rfl (World.shaped_of_RefB (by kernel_rfl) (by kernel_rfl)) (by kernel_rfl) (by kernel_rfl) (by kernel_rfl) (Two.door_met os _)) ?_
  intro W base args ds gs before hval0 hW _ hsz0 hL _
  have hval : ∀ (j : Nat) t v, Tryd.f3.params[j]? = some t → args[j]? = some v → Value.okWide Tryd.prog W .any base t v := hval0
  have hW' := hW
  obtain ⟨p, q, hA0, hV, rfl, hfz, hnd⟩ := hW
  have hA : DataW.TrodAll enc Tryd.prog W 0 (fun _ => true) true Tryd.f3.params.toList args.toList ds p := hA0
  rw [Tryd.params3] at hA hval
  obtain ⟨v0, vs0, d0, ds0, p0, q0, hargs, rfl, rfl, h0, r0⟩ := trodAll_cons hA
  obtain ⟨v1, vs1, d1, ds1, p1, q1, rfl, rfl, rfl, h1, r1⟩ := trodAll_cons r0
  obtain ⟨rfl, rfl, rfl⟩ := trodAll_nil r1
  obtain rfl : args = #[v0, v1] := by cases args; simp_all
  obtain ⟨rfl, rfl⟩ := trodVars_none hV
  obtain ⟨x0, y0, z0, t0, rfl, rfl, rfl, w0_0, w0_1, w0_2, w0_3⟩ := Cls.open_arr4 Tryd.underlying24 Tryd.underlying22 (by kernel_rfl) (by kernel_rfl) (hval 0 24 v0 rfl rfl) h0
  obtain ⟨f0, rfl, rfl, rfl, rfl⟩ := Cls.class_of w0_0 w0_1 w0_2 w0_3
  have k1 := h1
  have lt1 : ∀ x ∈ p1, x.block < W.heap.size := by obtain ⟨m, hm⟩ := k1; exact DataW.trod_lt m _ _ _ hm
  obtain ⟨s1, n1, c1, L1, K1, rfl, w1⟩ := Cls.open_leaf (hval 1 27 v1 rfl rfl) h1
  clear hA0 hval0
  refine (walk f0 s1 n1 c1 L1 K1 W w1 (Two.tabs_of_laid hL).1 (Two.tabs_of_laid hL).2).mono fun e W' ⟨he, bel⟩ => ?_
  subst he
  exact ⟨_, rfl, _, _, _, [], _, [], hW', trodAll_mk1 (shut_bool Tryd.underlying4 _), (trodAll_cons_mk (Cls.shut_arr4 Tryd.underlying24 Tryd.underlying22 (by kernel_rfl) (by kernel_rfl) w0_0 w0_1 w0_2 w0_3) (trodAll_cons_mk (Below.trod laidOut (by kernel_rfl) (of_decide_eq_true (by kernel_rfl)) k1 bel lt1) trodAll_mk0)), rfl, bel.frame _, fun h => by cases h⟩

theorem over : Rows.WildValuesSaid :=
  OpenClaim.holds_of_wide 3 Tryd.f3 rfl rfl rfl rfl rfl rfl rfl ⟨rfl, rfl, rfl, rfl, rfl⟩ rfl rfl rfl rfl rfl (by kernel_rfl) Tryd.func3 (by kernel_rfl)
    (of_decide_eq_true (by kernel_rfl)) (by unfold Func.isWrapper; rw [if_neg (of_decide_eq_false (by kernel_rfl))]; exact ⟨rfl, rfl⟩)
    (fun os started H enc _ => lifted os started H enc)

end Go.Proofs.YtbojmkkpgglhhaaDoor.wildValues
namespace Go.Proofs.YtbojmkkpgglhhaaDoor
open Go

/-- The statement. -/
theorem wildValues_proved : Rows.WildValuesCardSaid :=
  Claim7.holds_tied_plain_at .later [] [.data, .data] true (true, "939574dd19994d5d7a93fdd045251b015ebe9e91f9c101f72721bc7dd64a4ce5") false
    wildValues.over (fun _ h => by cases h) (by kernel_rfl) (fun _ h => by cases h) wildValues_row_tie rfl ⟨rfl, rfl⟩ (by kernel_rfl) rfl
    (fun f fn hf hfn => by
      obtain rfl : f = 3 := Option.some.inj ((show Tryd.prog.funcNamed "beagle/beaglelaw10.WildValues" = some 3 by kernel_rfl).symm.trans hf) |>.symm
      obtain rfl : fn = Tryd.f3 := (Option.some.inj (Tryd.func3.symm.trans hfn)).symm
      exact ⟨by kernel_rfl, fun j t ht => by
        rw [Tryd.params3] at ht
        have hm : t ∈ [24, 27] := by simpa using Array.mem_of_getElem? ht
        have hall : ([24, 27].all fun u => !Tryd.prog.wantsStandIn u) = true := by kernel_rfl
        exact (show Tryd.prog.wantsStandIn t = false by simpa using List.all_eq_true.1 hall t hm)⟩)
    (by kernel_rfl)
#print axioms wildValues_proved
end Go.Proofs.YtbojmkkpgglhhaaDoor
