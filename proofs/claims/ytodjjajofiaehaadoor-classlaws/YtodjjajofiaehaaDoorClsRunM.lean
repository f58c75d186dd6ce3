/- The runs of a set of bytes: plain; and rows of pairs of bytes in memory. Nothing of the program but its types' numbers. -/
import Derived.Test.YtodjjajofiaehaaDoorClsRow
import Derived.Test.YtodjjajofiaehaaDoorClsOf
namespace Go.Proofs.YtodjjajofiaehaaDoor
open Go.RowKit
namespace Cls

/-- The runs of f among the first n. -/
def rr (f : Nat → Bool) : Nat → List (Nat × Nat)
  | 0 => []
  | n + 1 => if f n = true then (if n = 0 ∨ f (n - 1) = false then rr f n ++ [(n, n)] else (rr f n).dropLast ++ [(((rr f n).getLastD (0, 0)).1, n)]) else rr f n
  termination_by n => n
theorem rr_zero (f : Nat → Bool) : rr f 0 = [] := by unfold rr; rfl
theorem rr_not {f : Nat → Bool} {n : Nat} (h : f n = false) : rr f (n + 1) = rr f n := by rw [rr, h]; simp
theorem rr_new {f : Nat → Bool} {n : Nat} (h : f n = true) (hp : n = 0 ∨ f (n - 1) = false) : rr f (n + 1) = rr f n ++ [(n, n)] := by rw [rr, if_pos h, if_pos hp]
theorem rr_more {f : Nat → Bool} {n : Nat} (h : f (n + 1) = true) (hp : f n = true) {L : List (Nat × Nat)} {a : Nat} (e : rr f (n + 1) = L ++ [(a, n)]) : rr f (n + 2) = L ++ [(a, n + 1)] := by
  rw [rr, if_pos h, if_neg (by simp [hp]), e]
  simp
theorem rr_last {f : Nat → Bool} : ∀ {n : Nat}, f n = true → ∃ L a, rr f (n + 1) = L ++ [(a, n)] ∧ a ≤ n
  | 0, h => ⟨_, 0, rr_new h (Or.inl rfl), Nat.le_refl _⟩
  | n + 1, h => by
    cases hp : f n with
    | false => exact ⟨_, n + 1, rr_new h (Or.inr (by simpa using hp)), Nat.le_refl _⟩
    | true =>
      obtain ⟨L, a, e, ha⟩ := rr_last (n := n) hp
      exact ⟨L, a, rr_more h hp e, by omega⟩
theorem rr_run {f : Nat → Bool} {p : Nat} (hp : p = 0 ∨ f (p - 1) = false) : ∀ q, (∀ x, p ≤ x → x ≤ p + q → f x = true) → rr f (p + q + 1) = rr f p ++ [(p, p + q)]
  | 0, h => rr_new (h p (by omega) (by omega)) hp
  | q + 1, h => rr_more (h (p + q + 1) (by omega) (by omega)) (h (p + q) (by omega) (by omega)) (rr_run hp q (fun x h1 h2 => h x h1 (by omega)))
theorem rr_lt (f : Nat → Bool) : ∀ n, ∀ x, x ∈ rr f n → x.1 ≤ x.2 ∧ x.2 < n
  | 0, x, hx => by rw [rr_zero] at hx; cases hx
  | n + 1, x, hx => by
    cases h : f n with
    | false => rw [rr_not h] at hx; have := rr_lt f n x hx; omega
    | true =>
      cases n with
      | zero => rw [rr_new h (Or.inl rfl), rr_zero] at hx; simp at hx; subst hx; simp
      | succ n =>
        cases hp : f n with
        | false =>
          rw [rr_new h (Or.inr (by simpa using hp))] at hx
          rcases List.mem_append.1 hx with hx | hx
          · have := rr_lt f (n + 1) x hx; omega
          · simp at hx; subst hx; simp
        | true =>
          obtain ⟨L, a, e, ha⟩ := rr_last (n := n) hp
          have ih := rr_lt f (n + 1)
          rw [rr_more h hp e] at hx
          rw [e] at ih
          rcases List.mem_append.1 hx with hx | hx
          · have := ih x (List.mem_append_left _ hx); omega
          · simp at hx; subst hx; simp; omega
theorem rr_len (f : Nat → Bool) : ∀ n, (rr f n).length ≤ n
  | 0 => by rw [rr_zero]; simp
  | n + 1 => by
    have ih := rr_len f n
    cases h : f n with
    | false => rw [rr_not h]; omega
    | true =>
      cases n with
      | zero => rw [rr_new h (Or.inl rfl), rr_zero]; simp
      | succ n =>
        cases hp : f n with
        | false => rw [rr_new h (Or.inr (by simpa using hp))]; simp; omega
        | true =>
          obtain ⟨L, a, e, ha⟩ := rr_last (n := n) hp
          rw [rr_more h hp e]
          rw [e] at ih
          simp at ih ⊢
          omega
/-- The ranges of a list of pairs, together. -/
def un (L : List (Nat × Nat)) (x : Nat) : Bool := L.any (fun p => rg p.1 (p.2 + 1) x)
theorem un_rr (f : Nat → Bool) : ∀ n x, un (rr f n) x = (decide (x < n) && f x)
  | 0, x => by rw [rr_zero]; simp [un]
  | n + 1, x => by
    have ih := un_rr f n x
    have hd : x ≠ n → decide (x < n + 1) = decide (x < n) := fun e => by
      by_cases h : x < n
      · rw [decide_eq_true h, decide_eq_true (by omega)]
      · rw [decide_eq_false h, decide_eq_false (by omega)]
    have one : ∀ a b, rg a (b + 1) x = (decide (a ≤ x) && decide (x ≤ b)) := fun a b => by
      unfold rg; congr 1
      by_cases h : x ≤ b
      · rw [decide_eq_true h, decide_eq_true (by omega)]
      · rw [decide_eq_false h, decide_eq_false (by omega)]
    cases h : f n with
    | false =>
      rw [rr_not h, ih]
      by_cases e : x = n
      · subst e; simp [h]
      · rw [hd e]
    | true =>
      have new : un (rr f n ++ [(n, n)]) x = (decide (x < n + 1) && f x) := by
        unfold un at ih ⊢
        rw [List.any_append, ih]
        simp only [List.any_cons, List.any_nil, Bool.or_false, one]
        by_cases e : x = n
        · subst e; simp [h]
        · rw [hd e]
          have : (decide (n ≤ x) && decide (x ≤ n)) = false := by
            by_cases h1 : n ≤ x
            · rw [decide_eq_false (show ¬ x ≤ n by omega)]; simp
            · rw [decide_eq_false h1]; simp
          rw [this, Bool.or_false]
      cases n with
      | zero => rw [rr_new h (Or.inl rfl)]; exact new
      | succ n =>
        cases hp : f n with
        | false => rw [rr_new h (Or.inr (by simpa using hp))]; exact new
        | true =>
          obtain ⟨L, a, e, ha⟩ := rr_last (n := n) hp
          rw [rr_more h hp e]
          rw [e] at ih
          unfold un at ih ⊢
          rw [List.any_append] at ih ⊢
          simp only [List.any_cons, List.any_nil, Bool.or_false, one] at ih ⊢
          by_cases e2 : x = n + 1
          · subst e2
            rw [decide_eq_true (show a ≤ n + 1 by omega)]
            simp [h]
          · rw [hd e2, ← ih]
            congr 2
            by_cases h3 : x ≤ n
            · rw [decide_eq_true h3, decide_eq_true (by omega)]
            · rw [decide_eq_false h3, decide_eq_false (by omega)]
theorem un_take (L : List (Nat × Nat)) (k : Nat) (h : k < L.length) : un (L.take (k + 1)) = fun x => un (L.take k) x || rg L[k].1 (L[k].2 + 1) x := by
  funext x
  unfold un
  rw [List.take_succ_eq_append_getElem h, List.any_append]
  simp
/-- The cells of a list of pairs. -/
def prs (L : List (Nat × Nat)) : List Value := L.flatMap fun p => [.int .u8 (p.1 : Int), .int .u8 (p.2 : Int)]
theorem prs_len (L : List (Nat × Nat)) : (prs L).length = L.length * 2 := by
  induction L with
  | nil => rfl
  | cons p L ih => simp [prs] at ih ⊢; omega
theorem prs_append (L M : List (Nat × Nat)) : prs (L ++ M) = prs L ++ prs M := by simp [prs]
theorem prs_at (L : List (Nat × Nat)) (k : Nat) (h : k < L.length) : (prs L)[2 * k]? = some (.int .u8 (L[k].1 : Int)) ∧ (prs L)[2 * k + 1]? = some (.int .u8 (L[k].2 : Int)) := by
  have e : L = L.take k ++ ([L[k]] ++ L.drop (k + 1)) := by
    rw [← List.append_assoc, ← List.take_succ_eq_append_getElem h, List.take_append_drop]
  have hl : (prs (L.take k)).length = 2 * k := by rw [prs_len, List.length_take]; omega
  have e2 : prs L = prs (L.take k) ++ ([.int .u8 (L[k].1 : Int), .int .u8 (L[k].2 : Int)] ++ prs (L.drop (k + 1))) := by
    conv => lhs; rw [e]
    rw [prs_append, prs_append]
    rfl
  rw [e2]
  constructor
  · rw [List.getElem?_append_right (by omega), hl, Nat.sub_self]; rfl
  · rw [List.getElem?_append_right (by omega), hl, show 2 * k + 1 - 2 * k = 1 by omega]; rfl
def OwnP (w : World) (B : Nat) (v : Value) (L : List (Nat × Nat)) : Prop := w.ownsRow B 22 2 v L.length (prs L)
theorem ownP_nil (w : World) (B : Nat) : OwnP w B (.slice none 0 0) [] := World.ownsRow_nil _ _ _ _
theorem ownP_slice {w : World} {B : Nat} {v : Value} {L : List (Nat × Nat)} (h : OwnP w B v L) : ∃ ao c, v = .slice ao L.length c := by
  obtain ⟨_, ⟨e, e2⟩ | ⟨g', cap, cur, hv, _⟩⟩ := h
  · exact ⟨none, 0, by rw [e, e2]⟩
  · exact ⟨_, _, hv⟩
theorem ownP_mono {w : World} {B C : Nat} {v : Value} {L : List (Nat × Nat)} (h : OwnP w B v L) (hC : C ≤ B) : OwnP w C v L := by
  obtain ⟨hl, h | ⟨g, cap, cur, hv, hg, r⟩⟩ := h
  · exact ⟨hl, Or.inl h⟩
  · exact ⟨hl, Or.inr ⟨g, cap, cur, hv, by omega, r⟩⟩
/-- The last pair's second byte, turned. -/
theorem ownP_set {w : World} {B g cap : Nat} {L : List (Nat × Nat)} {a b : Nat} (h : OwnP w B (.slice (some ⟨g, 0, none⟩) (L.length + 1) cap) (L ++ [(a, b)])) (c : Nat) :
    OwnP (w.setCell ⟨g, 2 * L.length + 1, none⟩ (.int .u8 (c : Int))) B (.slice (some ⟨g, 0, none⟩) (L.length + 1) cap) (L ++ [(a, c)]) := by
  obtain ⟨hl, ⟨e, _⟩ | ⟨g', cap', cur, hv, hg, hb, hc, hm, hs, ht⟩⟩ := h
  · cases e
  injection hv with h1 h2 h3
  injection h1 with h1
  injection h1 with h4 h5 h6
  subst h4
  refine ⟨by rw [prs_len], Or.inr ⟨g, cap, cur.setIfInBounds (2 * L.length + 1) (.int .u8 (c : Int)), by simp, hg, ?_, by subst h3; simpa using hc, by subst h3; exact hm, by rw [Array.size_setIfInBounds, h3]; exact hs, ?_⟩⟩
  · unfold World.setCell
    simp [Array.getElem?_modify, hb]
  · have e1 : (L ++ [(a, c)]).length = (L ++ [(a, b)]).length := by simp
    rw [e1, Array.toList_setIfInBounds, List.take_set, ht, prs_append, prs_append, List.set_append_right _ _ (by rw [prs_len]; omega), prs_len, show 2 * L.length + 1 - L.length * 2 = 1 by omega]
    rfl
theorem ownP_mem {w : World} {B : Nat} {v : Value} {L : List (Nat × Nat)} (h : OwnP w B v L) (hn : 1 ≤ L.length) : ∃ g cap, v = .slice (some ⟨g, 0, none⟩) L.length cap ∧ B ≤ g ∧ g < w.heap.size ∧ (∀ k, (hk : k < L.length) → w.cell? ⟨g, 2 * k, none⟩ = some (.int .u8 (L[k].1 : Int)) ∧ w.cell? ⟨g, 2 * k + 1, none⟩ = some (.int .u8 (L[k].2 : Int))) ∧ ∀ t, w.frozen? ⟨g, t, none⟩ = false := by
  obtain ⟨g, cap, hv, _, hg, hlt, hc, hf⟩ := owns_cells h hn
  refine ⟨g, cap, hv, hg, hlt, fun k hk => ⟨?_, ?_⟩, hf⟩
  · rw [hc _ (by omega)]; exact (prs_at L k hk).1
  · rw [hc _ (by omega)]; exact (prs_at L k hk).2
end Cls
end Go.Proofs.YtodjjajofiaehaaDoor
