/- Contract of beaglelaw04.alive: it tells true; nothing that was there turns. -/
import Derived.Test.YtlogdjhnhnfbkaaDoorConvA
import Derived.Test.YtlogdjhnhnfbkaaDoorSameC
namespace Go.Proofs.YtlogdjhnhnfbkaaDoor
open Go.RowKit Res

theorem Told.some {w w' : World} {N M : Nat} {F : Nat → Int} {c c' : Int} {e : Ending} (h : Told w N F c e w') (hN : N = M) (hc : c = c') (hM : 1 ≤ M) :
    ∃ b o cap, e = .returned (.tuple #[.slice (Option.some ⟨b, o, none⟩) M cap, .int .i64 c']) ∧ Fam w' b o M F ∧ b < w'.heap.size ∧ Below w.heap.size w w' := by
  subst hN hc
  obtain ⟨ao, cap, he, hl, hb⟩ := h
  obtain ⟨b, o, rfl, hf⟩ := hl hM
  exact ⟨b, o, cap, he, hf, hf.lt hM, hb⟩
theorem Told.zero {w w' : World} {N : Nat} {F : Nat → Int} {c c' : Int} {e : Ending} (h : Told w N F c e w') (hN : N = 0) (hc : c = c') :
    ∃ ao cap, e = .returned (.tuple #[.slice ao 0 cap, .int .i64 c']) ∧ Below w.heap.size w w' := by
  subst hN hc
  obtain ⟨ao, cap, he, _, hb⟩ := h
  exact ⟨ao, cap, he, hb⟩
theorem lst_le {zs : List Int} {M : Int} (h0 : 0 ≤ M) (h : ∀ z, z ∈ zs → z ≤ M) (t : Nat) : lst zs t ≤ M := by
  unfold lst
  by_cases ht : t < zs.length
  · rw [List.getD_eq_getElem?_getD, List.getElem?_eq_getElem ht]; exact h _ (List.getElem_mem ht)
  · rw [List.getD_eq_getElem?_getD, List.getElem?_eq_none (by omega)]; exact h0
/-- Two literals. -/
theorem two_lits (w : World) (hT : Tab w) (zs ys : List Int) (ty : TypeId) : ∃ v, v = (w.alloc (.cells (zs.map (Value.int .u64)).toArray ty)).alloc (.cells (ys.map (Value.int .u64)).toArray ty) ∧ Tab v ∧ Fam v w.heap.size 0 zs.length (lst zs) ∧ Fam v (w.heap.size + 1) 0 ys.length (lst ys) ∧ Below w.heap.size w v := by
  have hb1 : Below w.heap.size w (w.alloc (.cells (zs.map (Value.int .u64)).toArray ty)) := (Below.refl _ _).alloc (Nat.le_refl _) _
  refine ⟨_, rfl, (hT.alloc _).alloc _, (fam_lit w zs ty).alloc _, ?_, hb1.trans (((Below.refl _ _).alloc (Nat.le_refl _) _).mono hb1.size)⟩
  have := fam_lit (w.alloc (.cells (zs.map (Value.int .u64)).toArray ty)) ys ty
  rwa [size_alloc] at this
theorem one_lit (w : World) (hT : Tab w) (zs : List Int) (ty : TypeId) : ∃ v, v = w.alloc (.cells (zs.map (Value.int .u64)).toArray ty) ∧ Tab v ∧ Fam v w.heap.size 0 zs.length (lst zs) ∧ Below w.heap.size w v :=
  ⟨_, rfl, hT.alloc _, fam_lit w zs ty, (Below.refl _ _).alloc (Nat.le_refl _) _⟩
end Go.Proofs.YtlogdjhnhnfbkaaDoor
