/- A call by its contract, as a step of a region that draws its order. Nothing of the program. -/
import Derived.Deep.AppendLies
import Derived.Deep.RegionLaw
import Derived.WalkKit
namespace Go.Proofs.YtcohcdebbkfdfaaDoor

theorem run_enter {P : Program} {f : Nat} {fn : Func} (hf : P.funcs[f]? = some fn) (hn : (fn.name == "runtime.NumGoroutine") = false) (hb : fn.body.isNone = false) (args : Array Value) (w : World) : (callFunc f args).run P w = .ok (.enter f args) w := by
  have hn' : ¬ fn.name = "runtime.NumGoroutine" := by simpa using hn
  simp [callFunc, hf, hn']
  intro h
  rw [h] at hb
  cases hb

theorem step_call {P : Program} {ops : Array Oper} {o : Oper} {a : Act} {w : World} {K : Act → World → Prop} {Q : Exit → Act → World → Prop} {E : Prop}
    (hgd : o.guard = none) (f : Nat) (args : Array Operand) (ts : Array TypeId) (ho : o.op = .call { callee := .value (.func f), args := args, argTypes := ts }) (vs : Array Value) (hv : args.map a.eval = vs)
    (hen : ∀ w, (callFunc f vs).run P w = .ok (.enter f vs) w)
    (v : Value) (R : World → Prop) (hc : Calls P f vs w fun e w' => e = .returned v ∧ R w') (h : ∀ w', R w' → K (a.put o.dst v) w') :
    if Region.wanted o (yielded ops a.tmps) = true then Oper.wp P o a w K Q else E := by
  have hw : Region.wanted o (yielded ops a.tmps) = true := by simp [Region.wanted, hgd]
  rw [if_pos hw]
  have hf : a.eval (.func f) = .func (.func f) #[] #[] := by simp [Act.eval]
  unfold Oper.wp
  simp [execOp, ho, resolve, invoke, hv, hf, Deferred.ofValue, hen, Oper.upon]
  refine Calls.mono hc ?_
  rintro e w' ⟨rfl, r⟩
  exact h w' r

end Go.Proofs.YtcohcdebbkfdfaaDoor
