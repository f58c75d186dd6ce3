/- For ConvParts: School of rows that have a product; a copy of a slice that came in. -/
import Derived.Test.YtcppcfbcgopmoaaDoorConvLaw
import Derived.Laws.AppendOwnNone
namespace Go.Proofs.YtcppcfbcgopmoaaDoor
open Go.RowKit Res

set_option maxHeartbeats 1000000 in
theorem school_row (ao bo : Option Addr) (n m ca cb N : Nat) (h1 : 1 ≤ n) (h2 : 1 ≤ m) (hN : n + m = N + 1) (A B : Nat → Int) (hA0 : ∀ t, 0 ≤ A t) (hB0 : ∀ t, 0 ≤ B t) (hA : ∀ t, A t ≤ 18446744073709551615) (hB : ∀ t, B t ≤ 18446744073709551615) (hok : er n m (gr n A) (gr m B) = 0) (w : World) (la : Lies w ao n A) (lb : Lies w bo m B) :
    Calls Tryd.prog 16 #[.slice ao n ca, .slice bo m cb] w fun e w' => ∃ g, e = .returned (.tuple #[.slice (some ⟨g, 0, none⟩) N N, .int .i64 0]) ∧ Fam w' g 0 N (cv n m A B) ∧ Below w.heap.size w w' := by
  obtain ⟨w1, x1⟩ := boxS w (.slice ao n ca) 22
  have E1 : Hid _ := x1.eq
  have B1 : Hid _ := x1.bel
  have hs1 := x1.size
  have hc1 := x1.cell
  have la1 : Lies w1 ao n A := la.below x1.bel (Nat.le_refl _)
  have lb1 : Lies w1 bo m B := lb.below x1.bel (Nat.le_refl _)
  have hle := (er_zero hok).1
  have c1 : Hid _ := errorOf_any ao bo n m ca cb h1 h2 (by omega) (by omega) A B hA hB w1 la1 lb1
  have hd : ((n : Int) == 0) = false := beq_eq_false_iff_ne.2 (by omega)
  have hd2 : ((m : Int) == 0) = false := beq_eq_false_iff_ne.2 (by omega)
  have c2 : Hid _ := productOf_straight w.heap.size ao bo n m ca cb N h1 h2 hN hle A B A (fun _ _ => rfl) hA0 hB0 (cv_fits hA0 hB0 hok) w1 hc1 la1 lb1
  rw [hok] at c1
  clear la lb x1 la1 lb1 hok hA hB hA0 hB0
  go_enter Tryd.func16, Tryd.ntmps16
  go_wp2_with fail
  rw [← E1.out]
  refine Calls.mono (Hid.out c1) ?_; rintro e w' ⟨rfl, hw'⟩; subst w'
  go_wp2_with fail
  refine Calls.mono (Hid.out c2) ?_; rintro e w2 ⟨rfl, h3, h4, h5⟩
  have F2 : Hid _ := h4
  have B2 : Hid (Below w.heap.size w w2) := B1.out.trans (h5.mono (by omega))
  clear h4 h5
  go_wp2_with fail
  go_ret2
  exact ⟨_, rfl, F2.out, B2.out⟩

theorem copy_of (s : Option Addr) (n cap : Nat) (L : Nat → Int) (w : World) (hl : Sl w s n cap L) :
    ∃ go gc w1, (Builtin.append_ #[22, 22] 22 #[.slice (some ⟨w.heap.size, 0, none⟩) 0 0, .slice s n cap]).run Tryd.prog (w.alloc (.cells #[] 26)) = .ok (.slice go n gc) w1 ∧ Lies w1 go n L ∧ Below w.heap.size w w1 := by
  obtain ⟨i0, hi, hz0, hz1, hz2⟩ := info_parts infoU
  have hroom : n * 8 ≤ 140737488351232 := by have := hl.le; have := hl.room; omega
  cases s with
  | none =>
    obtain rfl : cap = 0 := hl.bare rfl
    obtain rfl : n = 0 := by have := hl.le; omega
    exact ⟨_, _, _, run_append_owned_none (P := Tryd.prog) _ w.heap.size 22 22 26 i0 1 Tryd.underlying22 hi _ _ _ (empty_own w), fun h => by omega, (Below.refl _ _).alloc (Nat.le_refl _) _⟩
  | some x =>
    have hnews : ∀ j u, (cellsOf L n)[j]? = some u → (w.alloc (.cells #[] 26)).cell? (x.add j) = some u := by
      by_cases h1 : 1 ≤ n
      · obtain ⟨b, o, e, hf⟩ := hl.lies h1
        obtain rfl : x = ⟨b, o, none⟩ := Option.some.inj e
        exact cells_at (hf.alloc _)
      · obtain rfl : n = 0 := by omega
        intro j u hu; simp [cellsOf] at hu
    obtain ⟨v', w', hr, h2, h3, _, _⟩ := run_append_own_at (P := Tryd.prog) (w.alloc (.cells #[] 26)) w.heap.size 22 22 26 i0 (.int .u64 0) 1 8 Tryd.underlying22 hi hz0 hz1 hz2 rfl (by decide) (.slice (some ⟨w.heap.size, 0, none⟩) 0 0) 0 [] (empty_own w) x n cap (cellsOf L n) (by simp [cellsOf]) hnews (cells_one L n) (by unfold maxLen; omega) (by omega) (by rw [size_alloc]; omega)
    rw [Nat.zero_add, List.nil_append] at h2
    obtain ⟨go, gc, rfl, hlie⟩ := own_lies (F := L) h2
    exact ⟨go, gc, w', hr, hlie, empty_grown h3⟩
/-- An append whose run is known, at a plain region's list. -/
theorem wpList_append_eq {P : Program} {w : World} {ops : Array Oper} {rest : List Oper} {o : Oper} {a : Act} {Q : Exit → Act → World → Prop} (hgd : o.guard = none) (s x : Operand) (t : TypeId)
    (ho : o.op = .call { callee := .builtin .append, args := #[s, x], argTypes := #[t, t] }) (v u v' : Value) (w' : World) (hs : a.eval s = v) (hx : a.eval x = u)
    (hr : (Builtin.append_ #[t, t] o.type #[v, u]).run P w = .ok v' w') (h : wpList P ops Q rest (a.put o.dst v') w') : wpList P ops Q (o :: rest) a w := by
  refine wpList_plain hgd fun K hK => ?_
  unfold Oper.wp
  simp [execOp, ho, resolve, invoke, builtin, hs, hx, hr, Result.andThen]
  exact hK _ _ h
end Go.Proofs.YtcppcfbcgopmoaaDoor
