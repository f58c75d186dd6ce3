/- What stands on the way of the laws of layer 9; by rows the same is found as element by element. -/
import Derived.Test.YtgdjllfolfiboaaDoorZdAl
import Derived.Test.YtgdjllfolfiboaaDoorLfOpen
import Derived.Test.YtgdjllfolfiboaaDoorLfLaw
namespace Go.Proofs.YtgdjllfolfiboaaDoor
open Go.RowKit
namespace Cls

/-- On the way: nothing that was there has turned; the library's table. -/
structure Tw (w v : World) : Prop where
  bel : Below w.heap.size w v
  tab : TabB v

theorem Tw.grow {w v v' : World} (h : Tw w v) (hb : Below v.heap.size v v') : Tw w v' := ⟨h.bel.trans (hb.mono h.bel.size), h.tab.grow hb⟩

theorem Tw.refl {w : World} (h : TabB w) : Tw w w := ⟨Below.refl _ _, h⟩

theorem told_len {w : World} {L : List Nat} {m : Nat} (hm : L.length = m) {e : Ending} {w' : World} (h : Told w L e w') : (∃ bo d, e = .returned (.slice bo m d) ∧ Is w' bo L) ∧ Below w.heap.size w w' := by
  obtain ⟨⟨bo, d, he, hi, _⟩, hb⟩ := h
  exact ⟨⟨bo, d, by rw [he, hm], hi⟩, hb⟩

theorem told2_len {w : World} {L : List Nat} {b : Bool} {m : Nat} (hm : L.length = m) {e : Ending} {w' : World} (h : Told2 w L b e w') : (∃ bo d, e = .returned (.tuple #[.slice bo m d, .bool b]) ∧ Is w' bo L) ∧ Below w.heap.size w w' := by
  obtain ⟨⟨bo, d, he, hi⟩, hb⟩ := h
  exact ⟨⟨bo, d, by rw [he, hm], hi⟩, hb⟩

theorem mis_none (P : Nat → Nat → Bool) (s : ByteArray) (i : Nat) : ∀ m, mis P s i m = 0 ↔ ∀ t, t < m → P t (byt s (i + t)) = true
  | 0 => by rw [mis_zero]; exact ⟨fun _ t ht => by omega, fun _ => rfl⟩
  | m + 1 => by
    rw [mis_succ]
    constructor
    · intro h t ht
      have h1 : mis P s i m = 0 := by omega
      by_cases e : t = m
      · subst e
        have h2 : (!P t (byt s (i + t))).toNat = 0 := by omega
        cases hp : P t (byt s (i + t)) with
        | true => rfl
        | false => rw [hp] at h2; exact absurd h2 (by decide)
      · exact (mis_none P s i m).1 h1 t (by omega)
    · intro h
      rw [(mis_none P s i m).2 (fun t ht => h t (by omega)), h m (by omega)]
      rfl

theorem byt_ltx {P : Nat → Nat → Bool} {n : Nat} (h : als P n = true) (t : Nat) (ht : t < n) : byt (ltx P n) t = bt (P t) := by
  have hz := ltx_size h
  rw [byt_at _ t (by omega)]
  have : ∀ (s : ByteArray) (h1 : t < s.size), s = ⟨(lts P n).toArray⟩ → (s[t]'h1).toNat = bt (P t) := by
    intro s h1 e
    subst e
    exact lts_at P n t (by rw [lts_len]; exact ht)
  exact this _ _ (ltx_yes h)

theorem als_at {P : Nat → Nat → Bool} {n : Nat} (h : als P n = true) (t : Nat) (ht : t < n) (x : Nat) (hx : x < 256) : P t x = (x == bt (P t)) := by
  have hs : sg (P t) = true := by
    have := h
    unfold als at this
    rw [List.all_eq_true] at this
    exact this t (by simpa using ht)
  rcases sgl_sg (P t) with ⟨_, _, hx'⟩ | ⟨h', _, _⟩
  · exact hx' x hx
  · rw [h'] at hs; cases hs

/-- By rows the same is found. -/
theorem zfd_fnd {P : Nat → Nat → Bool} {n : Nat} {K : Int} {t : ByteArray} (h : zok P n K = true) : zfd P n K t = fnd P n K t := by
  rw [zfd_yes h]
  unfold zok at h
  rw [Bool.and_eq_true, Bool.and_eq_true, decide_eq_true_eq] at h
  obtain ⟨⟨hr, hK⟩, ha⟩ := h
  subst hK
  have hz := ltx_size ha
  obtain ⟨h1, _, _, _⟩ := rgt_len hr
  rw [fdl_yes (by omega), fnd_hts]
  refine rise_ext (fds_sorted _ _ _) (hts_sorted _ _ _) (fun x => ?_)
  rw [fds_mem, hts_mem, stn_lt, hz]
  constructor
  · rintro ⟨hx, h2, h3⟩
    rw [hz] at h2 h3
    refine ⟨⟨hr, h2⟩, ?_⟩
    have : mis P t x n = 0 := (mis_none P t x n).2 (fun k hk => by
      rw [als_at ha k hk _ (byt_lt t _), ← h3 k hk, byt_ltx ha k hk, beq_self_eq_true])
    rw [this]
    exact Int.le_refl _
  · rintro ⟨⟨_, h2⟩, h3⟩
    have h4 : mis P t x n = 0 := by omega
    refine ⟨by omega, by rw [hz]; exact h2, fun k hk => ?_⟩
    rw [hz] at hk
    have h5 := (mis_none P t x n).1 h4 k hk
    rw [als_at ha k hk _ (byt_lt t _), beq_iff_eq] at h5
    rw [byt_ltx ha k hk, h5]

end Cls
end Go.Proofs.YtgdjllfolfiboaaDoor
