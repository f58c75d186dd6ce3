/- What stands on the way of the laws of leaves: a leaf in a box, its row, the library's table. -/
import Derived.Test.YtppmmobmoanagaaDoorLfAliveI
import Derived.Test.YtppmmobmoanagaaDoorLfA
import Derived.Test.YtppmmobmoanagaaDoorLfOpen
import Derived.Deep.RegionHeld3
namespace Go.Proofs.YtppmmobmoanagaaDoor
open Go.RowKit
namespace Cls

/-- A leaf of its letters is the leaf. -/
theorem text_back {P : Nat → Nat → Bool} {n : Nat} (h : als P n = true) (K : Int) : sml (tx (ltx P n)) (ltx P n).size K P n K = true := by
  have hz : (ltx P n).size = n := by rw [ltx_yes h]; show (lts P n).toArray.size = n; simp [lts_len]
  rw [hz]
  unfold sml
  rw [decide_eq_true rfl, Bool.true_and]
  refine eqr_yes (fun t ht => sm_true (fun x hx => ?_))
  have hs : sg (P t) = true := by
    have := h
    unfold als at this
    rw [List.all_eq_true] at this
    exact this t (by simpa using ht)
  rw [tx_at _ t (by omega) x]
  have hb : ((ltx P n)[t]'(by omega)).toNat = bt (P t) := by
    have : ∀ (s : ByteArray) (h1 : t < s.size), s = ⟨(lts P n).toArray⟩ → (s[t]'h1).toNat = bt (P t) := by
      intro s h1 e
      subst e
      exact lts_at P n t (by rw [lts_len]; exact ht)
    exact this _ _ (ltx_yes h)
  rw [hb]
  rcases sgl_sg (P t) with ⟨_, _, hx'⟩ | ⟨h', _, _⟩
  · exact (hx' x hx).symm
  · rw [h'] at hs; cases hs

theorem fr_tx (s : ByteArray) (t : Nat) (h : t < s.size) : fr (tx s t) = false := by
  rw [fr_size]
  have := (tx_sg s t h).1
  unfold sg at this
  rw [beq_iff_eq] at this
  rw [this]
  rfl

theorem pln_tx (s : ByteArray) : pln (tx s) s.size = true := all_range (q := fun t => sg (tx s t) || fr (tx s t)) (fun t ht => by show (sg (tx s t) || fr (tx s t)) = true; rw [(tx_sg s t ht).1]; rfl)

theorem bnd_tx (s : ByteArray) : ∀ n, n ≤ s.size → bnd (tx s) n = n
  | 0, _ => rfl
  | n + 1, h => by rw [bnd_succ, bnd_tx s n (by omega), fr_tx s n (by omega)]; rfl

end Cls
end Go.Proofs.YtppmmobmoanagaaDoor
