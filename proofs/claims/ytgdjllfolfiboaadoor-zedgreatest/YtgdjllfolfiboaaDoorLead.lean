/- A region that draws its order, whose first operation comes ahead of all others (a call that may make memory), the others only reading: one walk in the order of the text serves every order. Nothing of the program. -/
import Derived.Deep.QuietTactic
import Derived.BigQuiet
namespace Go.Proofs.YtgdjllfolfiboaaDoor

theorem wp_region_lead {P : Program} {id : Nat} {Q : Exit → Act → World → Prop} {a : Act} {w : World} {o : Oper} {rest : List Oper} (hm : P.follows .mixedOrders = true) (hs : Region.noSelect (o :: rest).toArray = true)
    (hr : Region.ready .any (o :: rest).toArray (Array.replicate (o :: rest).toArray.size false) = [0]) (hB : Region.lexFrom .any (o :: rest).toArray rest.length 1 ((Array.replicate (o :: rest).toArray.size false).setIfInBounds 0 true) = true) (hw : Region.wanted o (yielded (o :: rest).toArray a.tmps) = true)
    (h : ∀ K : Act → World → Prop, (∀ a' w', wpQuiet P (o :: rest).toArray (fun w'' => ∃ n, w'' = w'.drewN n) (fun a'' => ∀ w'', (∃ n, w'' = w'.drewN n) → Q .normal a'' w'') rest a' → K a' w') → o.wp P a w.drew K Q) :
    (Code.region id (o :: rest).toArray true).wp P Q a w := by
  refine wp_region_any hm ?_
  have hsz : (o :: rest).toArray.size = rest.length + 1 := by simp
  rw [hsz] at hr hB ⊢
  refine wpAny_all hr (by simp) ?_
  intro i hi
  obtain rfl : i = 0 := by simpa using hi
  have h0 : (o :: rest).toArray[0]? = some o := by simp
  unfold wpOp
  simp only [h0, hw, if_true]
  refine Or.inl (h _ fun a' w' hq => ?_)
  refine wpAny_of_quiet (C := fun w'' => ∃ n, w'' = w'.drewN n) (Q := fun a'' => ∀ w'', (∃ n, w'' = w'.drewN n) → Q .normal a'' w'') (fun _ w'' hw'' h => h w'' hw'') _ _ _ _ ⟨0, rfl⟩ ?_
  exact wpAnyQ_lex (C := fun w'' => ∃ n, w'' = w'.drewN n) (md := .any) hs rest 1 _ a' (fun j => by simp [Nat.add_comm 1 j]) hB hq
end Go.Proofs.YtgdjllfolfiboaaDoor
