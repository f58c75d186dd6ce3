/- Where reading ends: no place behind the text's end; how many tokens there are. Plain. -/
import Derived.Test.YtljahelbbafhlaaDoorTkMore
import Derived.Test.YtljahelbbafhlaaDoorTkRd8
set_option linter.unusedVariables false
namespace Go.Proofs.YtljahelbbafhlaaDoor
namespace Cls

theorem esp_end {s : ByteArray} {q p c : Nat} (h : esp s q = .error (p, c)) : p = q := by
  unfold esp at h
  split at h
  · cases h
  split at h
  · cases h
  · simp only [Except.error.injEq, Prod.mk.injEq] at h; omega

theorem itm_end {s : ByteArray} {q p c : Nat} (h : itm s q = .error (p, c)) : p ≤ s.size := by
  unfold itm at h
  split at h
  · simp only [Except.error.injEq, Prod.mk.injEq] at h; omega
  split at h
  · have := esp_end h; omega
  split at h
  · simp only [Except.error.injEq, Prod.mk.injEq] at h; omega
  · cases h

theorem cli_end {s : ByteArray} : ∀ (fuel q : Nat) (out : Nat → Bool) (items p c : Nat), q ≤ s.size → cli s fuel q out items = .error (p, c) → p ≤ s.size
  | 0, q, _, _, p, c, hq, h => by rw [cli] at h; simp only [Except.error.injEq, Prod.mk.injEq] at h; omega
  | fuel + 1, q, out, items, p, c, hq, h => by
    rw [cli] at h
    split at h
    · cases h
    · split at h
      · rename_i e e1
        simp only [Except.error.injEq] at h
        subst h
        exact itm_end e1
      · rename_i a at1 e1
        have n1 := itm_next e1
        split at h
        · split at h
          · rename_i e e2
            simp only [Except.error.injEq] at h
            subst h
            exact itm_end e2
          · rename_i b at2 e2
            have n2 := itm_next e2
            split at h
            · simp only [Except.error.injEq, Prod.mk.injEq] at h; omega
            · exact cli_end fuel _ _ _ p c n2.2.1 h
        · exact cli_end fuel _ _ _ p c n1.2.1 h

theorem clr_end {s : ByteArray} {q p c : Nat} (hq : q < s.size) (h : clr s q = .error (p, c)) : p ≤ s.size := by
  unfold clr at h
  cases e1 : cli s (s.size + 1) (if q + 1 < s.size ∧ byt s (q + 1) = 94 then q + 2 else q + 1) (fun _ => false) 0 with
  | error e =>
    rw [e1] at h
    simp only [Except.error.injEq] at h
    subst h
    exact cli_end _ _ _ _ _ _ (by split <;> omega) e1
  | ok x =>
    obtain ⟨⟨out, items⟩, at1⟩ := x
    rw [e1] at h
    simp only at h
    by_cases hc : items = 0 ∨ cb (if q + 1 < s.size ∧ byt s (q + 1) = 94 then fun x => !out x else out) 0 256 = 0
    · rw [if_pos hc] at h
      simp only [Except.error.injEq, Prod.mk.injEq] at h
      omega
    · rw [if_neg hc] at h; cases h

theorem elm_end {s : ByteArray} {q p c : Nat} (hq : q < s.size) (h : elm s q = .error (p, c)) : p ≤ s.size := by
  unfold elm at h
  split at h
  · cases h
  split at h
  · exact clr_end hq h
  split at h
  · split at h
    · rename_i e e1
      simp only [Except.error.injEq] at h
      subst h
      have := esp_end e1
      omega
    · cases h
  split at h
  · simp only [Except.error.injEq, Prod.mk.injEq] at h; omega
  · cases h

theorem ptl_end {s : ByteArray} : ∀ (fuel q : Nat) (out : List (Nat → Bool)) (p c : Nat), q ≤ s.size → ptl s fuel q out = .error (p, c) → p ≤ s.size
  | 0, q, _, p, c, hq, h => by rw [ptl] at h; simp only [Except.error.injEq, Prod.mk.injEq] at h; omega
  | fuel + 1, q, out, p, c, hq, h => by
    rw [ptl] at h
    split at h
    · simp only [Except.error.injEq, Prod.mk.injEq] at h; omega
    split at h
    · split at h
      · simp only [Except.error.injEq, Prod.mk.injEq] at h; omega
      · cases h
    split at h
    · simp only [Except.error.injEq, Prod.mk.injEq] at h; omega
    split at h
    · rename_i e e1
      simp only [Except.error.injEq] at h
      subst h
      exact elm_end (by omega) e1
    · rename_i f n e1
      exact ptl_end fuel _ _ p c (elm_next (by omega) e1).2.1 h

theorem nmb_end {s : ByteArray} {q p c : Nat} (h : nmb s q = .error (p, c)) : p = q := by
  unfold nmb at h
  split at h
  · simp only [Except.error.injEq, Prod.mk.injEq] at h; omega
  · cases h

theorem tok1_end {s : ByteArray} {q p c : Nat} (hq : q < s.size) (h : tok1 s q = .error (p, c)) : p ≤ s.size := by
  unfold tok1 at h
  split at h
  · split at h
    · rename_i e e1
      simp only [Except.error.injEq] at h
      subst h
      exact ptl_end _ _ _ _ _ (by omega) e1
    · cases h
  split at h
  · simp only [Except.error.injEq, Prod.mk.injEq] at h; omega
  split at h
  · cases h
  split at h
  · rename_i e e1
    simp only [Except.error.injEq] at h
    subst h
    have := nmb_end e1
    omega
  · cases h

theorem lxl_end {s : ByteArray} : ∀ (fuel q : Nat) (out : List Tk) (p c : Nat), q ≤ s.size → lxl s fuel q out = .error (p, c) → p ≤ s.size
  | 0, q, _, p, c, hq, h => by rw [lxl] at h; simp only [Except.error.injEq, Prod.mk.injEq] at h; omega
  | fuel + 1, q, out, p, c, hq, h => by
    rw [lxl] at h
    split at h
    · cases h
    split at h
    · exact lxl_end fuel _ _ p c (by omega) h
    split at h
    · rename_i e e1
      simp only [Except.error.injEq] at h
      subst h
      exact tok1_end (by omega) e1
    · rename_i t n e1
      exact lxl_end fuel _ _ p c (tok1_next (by omega) e1).2.1 h

theorem lxl_few {s : ByteArray} : ∀ (fuel q : Nat) (out L : List Tk), lxl s fuel q out = .ok L → L.length ≤ out.length + fuel
  | 0, q, out, L, h => by rw [lxl] at h; cases h
  | fuel + 1, q, out, L, h => by
    rw [lxl] at h
    split at h
    · simp only [Except.ok.injEq] at h
      subst h
      omega
    split at h
    · have := lxl_few fuel _ _ L h; omega
    split at h
    · cases h
    · have := lxl_few fuel _ _ L h
      rw [List.length_append, List.length_singleton] at this
      omega

theorem lpl_le (s : ByteArray) : lpl s ≤ s.size := by
  cases h : lex1 s with
  | ok L => rw [(lex_ok h).1]; exact Nat.le_refl _
  | error e =>
    obtain ⟨p, c⟩ := e
    rw [(lex_err h).1]
    unfold lex1 at h
    split at h
    · simp only [Except.error.injEq, Prod.mk.injEq] at h; omega
    · exact lxl_end _ _ _ _ _ (Nat.zero_le _) h

theorem lls_few (s : ByteArray) : (lls s).length ≤ s.size + 1 := by
  cases h : lex1 s with
  | ok L =>
    rw [(lex_ok h).2.2]
    unfold lex1 at h
    split at h
    · cases h
    · have := lxl_few _ _ _ _ h
      simp at this
      exact this
  | error e =>
    obtain ⟨p, c⟩ := e
    rw [(lex_err h).2.2]
    simp

theorem lls_len {s : ByteArray} {L : List Tv} (h : L.map Tv.i = (lls s).map Tk.i) : L.length ≤ s.size + 1 := by
  have := congrArg List.length h
  simp only [List.length_map] at this
  have := lls_few s
  omega

end Cls
end Go.Proofs.YtljahelbbafhlaaDoor
