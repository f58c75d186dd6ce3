/- PROVED: 'beaglelaw06.ClassSame' answers true for every input, and leaves its arguments as they were; the table math/bits.deBruijn64tab is tied to the program's text (a tied card). No further condition. -/
import Derived.Test.YtodjjajofiaehaaDoorClsLaid
import Derived.ChangeMaps5
import Derived.Test.YtodjjajofiaehaaDoorClsSameLW
import Derived.ChangeOld
import Derived.Below
namespace Go.Proofs.YtodjjajofiaehaaDoor.classSame
open Go.ChangeShapes Go.WideShapes Go.ChangeAt Go.RowKit Cls
set_option linter.unusedVariables false

theorem laidOut : laidOutB Tryd.prog = true := by kernel_rfl
set_option maxRecDepth 100000 in
theorem lifted (os : Os) (started : os.Started) (H : Type) (enc : TypeId × Value → H) :
    ReturnsInHanded {} Tryd.checked os 7 .any (fun w args => (Rows.classSameSpec.pre enc Tryd.prog Tryd.f7 [] false w args ∧ laidMetH Tryd.prog Cls.laid1 w) ∧ sizedMet enc Tryd.prog Tryd.f7 (OpenSpec.ofChange Rows.classSameSpec) false w args)
      (Rows.classSameSpec.post enc Tryd.prog Tryd.f7 false true false false) := by
  refine returnsInHanded_of_change_and (C := Tryd.checked) (X := fun w _ => laidMetH Tryd.prog Cls.laid1 w) (fun _ _ _ hh h => h.of_heap hh) Cls.own started (by kernel_rfl) Tryd.func7
    (ChangeSpec.witness_shaped (enc := enc) (C := Tryd.checked) (os := os) (X := fun w _ => laidMetH Tryd.prog Cls.laid1 w) false (World.doorLaid Tryd.prog 400 os) #[.agg #[.int .u64 0, .int .u64 0, .int .u64 0, .int .u64 0], .agg #[.int .u64 0, .int .u64 0, .int .u64 0, .int .u64 0]] 8 rfl (World.shaped_of_RefB (by kernel_rfl) (by kernel_rfl)) (by kernel_rfl) (by kernel_rfl) (by kernel_rfl) (Cls.door_met os _)) ?_
  intro W base args ds gs before hval0 hW _ hsz0 hL _
  have hval : ∀ (j : Nat) t v, Tryd.f7.params[j]? = some t → args[j]? = some v → Value.okWide Tryd.prog W .any base t v := hval0
  have hW' := hW
  obtain ⟨p, q, hA0, hV, rfl, hfz, hnd⟩ := hW
  have hA : DataW.TrodAll enc Tryd.prog W 0 (fun _ => true) true Tryd.f7.params.toList args.toList ds p := hA0
  rw [Tryd.params7] at hA hval
  obtain ⟨v0, vs0, d0, ds0, p0, q0, hargs, rfl, rfl, h0, r0⟩ := trodAll_cons hA
  obtain ⟨v1, vs1, d1, ds1, p1, q1, rfl, rfl, rfl, h1, r1⟩ := trodAll_cons r0
  obtain ⟨rfl, rfl, rfl⟩ := trodAll_nil r1
  obtain rfl : args = #[v0, v1] := by cases args; simp_all
  obtain ⟨rfl, rfl⟩ := trodVars_none hV
  obtain ⟨x0, y0, z0, t0, rfl, rfl, rfl, w0_0, w0_1, w0_2, w0_3⟩ := Cls.open_arr4 Tryd.underlying26 Tryd.underlying24 (by kernel_rfl) (by kernel_rfl) (hval 0 26 v0 rfl rfl) h0
  obtain ⟨f0, rfl, rfl, rfl, rfl⟩ := Cls.class_of w0_0 w0_1 w0_2 w0_3
  obtain ⟨x1, y1, z1, t1, rfl, rfl, rfl, w1_0, w1_1, w1_2, w1_3⟩ := Cls.open_arr4 Tryd.underlying26 Tryd.underlying24 (by kernel_rfl) (by kernel_rfl) (hval 1 26 v1 rfl rfl) h1
  obtain ⟨f1, rfl, rfl, rfl, rfl⟩ := Cls.class_of w1_0 w1_1 w1_2 w1_3
  clear hA0 hval0
  refine (walk f0 f1 W  (Cls.tab_of_laid hL)).mono fun e W' ⟨he, bel⟩ => ?_
  subst he
  exact ⟨_, rfl, _, _, _, [], _, [], hW', trodAll_mk1 (shut_bool Tryd.underlying4 _), (trodAll_cons_mk (Cls.shut_arr4 Tryd.underlying26 Tryd.underlying24 (by kernel_rfl) (by kernel_rfl) w0_0 w0_1 w0_2 w0_3) (trodAll_cons_mk (Cls.shut_arr4 Tryd.underlying26 Tryd.underlying24 (by kernel_rfl) (by kernel_rfl) w1_0 w1_1 w1_2 w1_3) trodAll_mk0)), rfl, bel.frame _, fun h => by cases h⟩

theorem over : Rows.ClassSameSaid :=
  OpenClaim.holds_of_wide 7 Tryd.f7 rfl rfl rfl rfl rfl rfl rfl ⟨rfl, rfl, rfl, rfl, rfl⟩ rfl rfl rfl rfl rfl (by kernel_rfl) Tryd.func7 (by kernel_rfl)
    (of_decide_eq_true (by kernel_rfl)) (by unfold Func.isWrapper; rw [if_neg (of_decide_eq_false (by kernel_rfl))]; exact ⟨rfl, rfl⟩)
    (fun os started H enc _ => lifted os started H enc)

end Go.Proofs.YtodjjajofiaehaaDoor.classSame
namespace Go.Proofs.YtodjjajofiaehaaDoor
open Go

/-- The statement. -/
theorem classSame_proved : Rows.ClassSameCardSaid :=
  Claim7.holds_tied_plain_at .later [] [.data] true (true, "21861fc272050304f024244748d134cb78bef3ab49e5b8a09eb78c42cd0f5699") false
    classSame.over (fun _ h => by cases h) (by kernel_rfl) (fun _ h => by cases h) classSame_row_tie rfl ⟨rfl, rfl⟩ (by kernel_rfl) rfl
    (fun f fn hf hfn => by
      obtain rfl : f = 7 := Option.some.inj ((show Tryd.prog.funcNamed "beagle/beaglelaw06.ClassSame" = some 7 by kernel_rfl).symm.trans hf) |>.symm
      obtain rfl : fn = Tryd.f7 := (Option.some.inj (Tryd.func7.symm.trans hfn)).symm
      exact ⟨by kernel_rfl, fun j t ht => by
        rw [Tryd.params7] at ht
        have hm : t ∈ [26, 26] := by simpa using Array.mem_of_getElem? ht
        have hall : ([26, 26].all fun u => !Tryd.prog.wantsStandIn u) = true := by kernel_rfl
        exact (show Tryd.prog.wantsStandIn t = false by simpa using List.all_eq_true.1 hall t hm)⟩)
    (by kernel_rfl)
#print axioms classSame_proved
end Go.Proofs.YtodjjajofiaehaaDoor
