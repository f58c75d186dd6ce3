/- For ConvParts: School of rows that have a product; a copy of a slice that came in. -/
import Derived.Test.YtdffofpoilfhiaaDoorConvLaw
import Derived.Laws.AppendOwnNone
namespace Go.Proofs.YtdffofpoilfhiaaDoor
open Go.RowKit Res

theorem copy_of (s : Option Addr) (n cap : Nat) (L : Nat → Int) (w : World) (hl : Sl w s n cap L) :
    ∃ go gc w1, (Builtin.append_ #[22, 22] 22 #[.slice (some ⟨w.heap.size, 0, none⟩) 0 0, .slice s n cap]).run Tryd.prog (w.alloc (.cells #[] 40)) = .ok (.slice go n gc) w1 ∧ Lies w1 go n L ∧ Below w.heap.size w w1 := by
  obtain ⟨i0, hi, hz0, hz1, hz2⟩ := info_parts infoU
  have hroom : n * 8 ≤ 140737488351232 := by have := hl.le; have := hl.room; omega
  cases s with
  | none =>
    obtain rfl : cap = 0 := hl.bare rfl
    obtain rfl : n = 0 := by have := hl.le; omega
    exact ⟨_, _, _, run_append_owned_none (P := Tryd.prog) _ w.heap.size 22 22 40 i0 1 Tryd.underlying22 hi _ _ _ (empty_own w), fun h => by omega, (Below.refl _ _).alloc (Nat.le_refl _) _⟩
  | some x =>
    have hnews : ∀ j u, (cellsOf L n)[j]? = some u → (w.alloc (.cells #[] 40)).cell? (x.add j) = some u := by
      by_cases h1 : 1 ≤ n
      · obtain ⟨b, o, e, hf⟩ := hl.lies h1
        obtain rfl : x = ⟨b, o, none⟩ := Option.some.inj e
        exact cells_at (hf.alloc _)
      · obtain rfl : n = 0 := by omega
        intro j u hu; simp [cellsOf] at hu
    obtain ⟨v', w', hr, h2, h3, _, _⟩ := run_append_own_at (P := Tryd.prog) (w.alloc (.cells #[] 40)) w.heap.size 22 22 40 i0 (.int .u64 0) 1 8 Tryd.underlying22 hi hz0 hz1 hz2 rfl (by decide) (.slice (some ⟨w.heap.size, 0, none⟩) 0 0) 0 [] (empty_own w) x n cap (cellsOf L n) (by simp [cellsOf]) hnews (cells_one L n) (by unfold maxLen; omega) (by omega) (by rw [size_alloc]; omega)
    rw [Nat.zero_add, List.nil_append] at h2
    obtain ⟨go, gc, rfl, hlie⟩ := own_lies (F := L) h2
    exact ⟨go, gc, w', hr, hlie, empty_grown h3⟩
/-- An append whose run is known, at a plain region's list. -/
theorem wpList_append_eq {P : Program} {w : World} {ops : Array Oper} {rest : List Oper} {o : Oper} {a : Act} {Q : Exit → Act → World → Prop} (hgd : o.guard = none) (s x : Operand) (t : TypeId)
    (ho : o.op = .call { callee := .builtin .append, args := #[s, x], argTypes := #[t, t] }) (v u v' : Value) (w' : World) (hs : a.eval s = v) (hx : a.eval x = u)
    (hr : (Builtin.append_ #[t, t] o.type #[v, u]).run P w = .ok v' w') (h : wpList P ops Q rest (a.put o.dst v') w') : wpList P ops Q (o :: rest) a w := by
  refine wpList_plain hgd fun K hK => ?_
  unfold Oper.wp
  simp [execOp, ho, resolve, invoke, builtin, hs, hx, hr, Result.andThen]
  exact hK _ _ h
end Go.Proofs.YtdffofpoilfhiaaDoor
