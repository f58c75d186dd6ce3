/- What stands on the way of the laws of leaves: a leaf in a box, its row, the library's table. -/
import Derived.Test.YtlogdjhnhnfbkaaDoorLfAliveI
import Derived.Test.YtlogdjhnhnfbkaaDoorLfA
import Derived.Test.YtlogdjhnhnfbkaaDoorLfOpen
import Derived.Deep.RegionHeld3
namespace Go.Proofs.YtlogdjhnhnfbkaaDoor
open Go.RowKit
namespace Cls

/-- A leaf in a box, on the way. -/
structure Lw (w wk : World) (g : Nat) (ao : Option Addr) (n cap : Nat) (P : Nat → Nat → Bool) (K : Int) : Prop where
  bel : Below w.heap.size w wk
  c : wk.cell? ⟨g, 0, none⟩ = some (.slice ao n cap) ∧ wk.cell? ⟨g, 1, none⟩ = some (.int .i64 K)
  l : Lf wk ao n P
  tab : TabB wk

theorem Lw.grow {w wk w' : World} {g : Nat} {ao : Option Addr} {n cap : Nat} {P : Nat → Nat → Bool} {K : Int} (h : Lw w wk g ao n cap P K) (b : Below wk.heap.size wk w') : Lw w w' g ao n cap P K :=
  ⟨h.bel.trans (b.mono h.bel.size), two_below h.c b (World.block_lt_of_cell? wk _ h.c.1), h.l.grow b, h.tab.grow b⟩

theorem Lw.drewN {w wk : World} {g : Nat} {ao : Option Addr} {n cap : Nat} {P : Nat → Nat → Bool} {K : Int} (h : Lw w wk g ao n cap P K) (q : Nat) : Lw w (wk.drewN q) g ao n cap P K :=
  ⟨below_drewN h.bel q, h.c, h.l.drewN q, h.tab⟩

/-- .. and a class in another box. -/
structure Lwc (w wk : World) (g gc : Nat) (ao : Option Addr) (n cap : Nat) (P : Nat → Nat → Bool) (K : Int) (c : Nat → Bool) : Prop where
  o : Lw w wk g ao n cap P K
  f : Fam wk gc 0 4 (wi c)

theorem Lwc.grow {w wk w' : World} {g gc : Nat} {ao : Option Addr} {n cap : Nat} {P : Nat → Nat → Bool} {K : Int} {c : Nat → Bool} (h : Lwc w wk g gc ao n cap P K c) (b : Below wk.heap.size wk w') : Lwc w w' g gc ao n cap P K c :=
  ⟨h.o.grow b, h.f.below b (h.f.lt (by omega))⟩

/-- .. two leaves in boxes. -/
structure Lw2 (w wk : World) (g g' : Nat) (ao : Option Addr) (n cap : Nat) (P : Nat → Nat → Bool) (K : Int) (bo : Option Addr) (m dap : Nat) (Q : Nat → Nat → Bool) (J : Int) : Prop where
  a : Lw w wk g ao n cap P K
  b : Lw w wk g' bo m dap Q J

theorem Lw2.grow {w wk w' : World} {g g' : Nat} {ao : Option Addr} {n cap : Nat} {P : Nat → Nat → Bool} {K : Int} {bo : Option Addr} {m dap : Nat} {Q : Nat → Nat → Bool} {J : Int} (h : Lw2 w wk g g' ao n cap P K bo m dap Q J) (b : Below wk.heap.size wk w') : Lw2 w w' g g' ao n cap P K bo m dap Q J :=
  ⟨h.a.grow b, h.b.grow b⟩

/-- A leaf of its letters is the leaf. -/
theorem text_back {P : Nat → Nat → Bool} {n : Nat} (h : als P n = true) (K : Int) : sml (tx (ltx P n)) (ltx P n).size K P n K = true := by
  have hz : (ltx P n).size = n := by rw [ltx_yes h]; show (lts P n).toArray.size = n; simp [lts_len]
  rw [hz]
  unfold sml
  rw [decide_eq_true rfl, Bool.true_and]
  refine eqr_yes (fun t ht => sm_true (fun x hx => ?_))
  have hs : sg (P t) = true := by
    have := h
    unfold als at this
    rw [List.all_eq_true] at this
    exact this t (by simpa using ht)
  rw [tx_at _ t (by omega) x]
  have hb : ((ltx P n)[t]'(by omega)).toNat = bt (P t) := by
    have : ∀ (s : ByteArray) (h1 : t < s.size), s = ⟨(lts P n).toArray⟩ → (s[t]'h1).toNat = bt (P t) := by
      intro s h1 e
      subst e
      exact lts_at P n t (by rw [lts_len]; exact ht)
    exact this _ _ (ltx_yes h)
  rw [hb]
  rcases sgl_sg (P t) with ⟨_, _, hx'⟩ | ⟨h', _, _⟩
  · exact (hx' x hx).symm
  · rw [h'] at hs; cases hs

theorem fr_tx (s : ByteArray) (t : Nat) (h : t < s.size) : fr (tx s t) = false := by
  rw [fr_size]
  have := (tx_sg s t h).1
  unfold sg at this
  rw [beq_iff_eq] at this
  rw [this]
  rfl

theorem pln_tx (s : ByteArray) : pln (tx s) s.size = true := all_range (q := fun t => sg (tx s t) || fr (tx s t)) (fun t ht => by show (sg (tx s t) || fr (tx s t)) = true; rw [(tx_sg s t ht).1]; rfl)

theorem bnd_tx (s : ByteArray) : ∀ n, n ≤ s.size → bnd (tx s) n = n
  | 0, _ => rfl
  | n + 1, h => by rw [bnd_succ, bnd_tx s n (by omega), fr_tx s n (by omega)]; rfl

end Cls
end Go.Proofs.YtlogdjhnhnfbkaaDoor
