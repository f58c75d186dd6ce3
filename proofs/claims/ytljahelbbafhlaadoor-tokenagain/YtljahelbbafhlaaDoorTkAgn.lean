/- Tokens that are printed one behind the other, a blank behind each, are read again. Plain. -/
import Derived.Test.YtljahelbbafhlaaDoorTkErr
import Derived.Test.YtljahelbbafhlaaDoorTkSml
import Derived.Test.YtljahelbbafhlaaDoorTkSame
import Derived.Test.YtljahelbbafhlaaDoorTkPr1
set_option linter.unusedVariables false
namespace Go.Proofs.YtljahelbbafhlaaDoor
namespace Cls

/-- Tokens, printed, a blank behind each. -/
def agt (Y : List Tk) : List Nat := Y.flatMap fun t => (prt t).getD [] ++ [32]

theorem agt_cons (t : Tk) (Y : List Tk) : agt (t :: Y) = ((prt t).getD [] ++ [32]) ++ agt Y := by simp [agt]

theorem agt_take (Y : List Tk) (i : Nat) (h : i < Y.length) : agt (Y.take (i + 1)) = agt (Y.take i) ++ ((prt Y[i]).getD [] ++ [32]) := by
  have e := List.take_append_getElem h
  unfold agt
  rw [← e, List.flatMap_append, List.flatMap_cons, List.flatMap_nil, List.append_nil]

theorem lxl_again {s : ByteArray} : ∀ (Y : List Tk) (fuel p : Nat) (out : List Tk), (∀ t ∈ Y, ∃ T, prt t = some T) → hat s p (agt Y) → p + (agt Y).length = s.size → (agt Y).length < fuel →
    ∃ M, lxl s fuel p out = .ok (out ++ M) ∧ M.length = Y.length ∧ ∀ i, (h : i < M.length) → (h' : i < Y.length) → tsm M[i] Y[i]
  | [], fuel, p, out, _, h, hp, hf => by
    obtain ⟨f, rfl⟩ : ∃ f, fuel = f + 1 := ⟨fuel - 1, by omega⟩
    refine ⟨[], ?_, rfl, fun i h => by simp at h⟩
    have : p = s.size := by simpa [agt] using hp
    rw [lxl, if_pos (by omega), List.append_nil]
  | t :: Y, fuel, p, out, hY, h, hp, hf => by
    obtain ⟨a, ha⟩ := hY t (by simp)
    rw [agt_cons, ha] at h hp hf
    simp only [Option.getD_some] at h hp hf
    rw [hat_app, hat_app] at h
    simp only [List.length_append, List.length_singleton] at h hp hf
    obtain ⟨⟨h1, h2⟩, h3⟩ := h
    have h32 := h2.2.1
    have hl1 := prt_len ha
    obtain ⟨g1, g2, u, hu, hs, _⟩ := tok1_prt ha h1 (fun e => by rw [h32] at e; exact absurd e.2 (by decide))
    obtain ⟨f, rfl⟩ : ∃ f, fuel = f + 2 := ⟨fuel - 2, by omega⟩
    obtain ⟨M, hM, hl, hr⟩ := lxl_again Y f (p + (a.length + 1)) (out ++ [u]) (fun x hx => hY x (by simp [hx])) h3 (by omega) (by omega)
    refine ⟨u :: M, ?_, by simp [hl], fun i hi hi' => ?_⟩
    · rw [lxl, if_neg (by omega), if_neg g2, hu]
      simp only
      rw [lxl, if_neg (by have := h2.1; omega), if_pos h32]
      have e : p + a.length + 1 = p + (a.length + 1) := by omega
      rw [e, hM, List.append_assoc]
      rfl
    · cases i with
      | zero => exact hs
      | succ i => exact hr i (by simpa using hi) (by simpa using hi')

theorem lxl_code {s : ByteArray} : ∀ (fuel q : Nat) (out : List Tk) (p c : Nat), q ≤ s.size → s.size + 1 ≤ fuel + q → lxl s fuel q out = .error (p, c) → c ≠ 0
  | 0, q, _, p, c, hq, hf, h => by omega
  | fuel + 1, q, out, p, c, hq, hf, h => by
    rw [lxl] at h
    split at h
    · cases h
    split at h
    · exact lxl_code fuel _ _ p c (by omega) (by omega) h
    split at h
    · rename_i e e1
      simp only [Except.error.injEq] at h
      subst h
      exact rcd_code0 (by omega) e1
    · rename_i t n e1
      have n1 := tok1_next (by omega) e1
      exact lxl_code fuel _ _ p c (by omega) (by omega) h

/-- No error: there are tokens, and each has its text. -/
theorem lex_told {s : ByteArray} (h : lcd s = 0) : s.size ≤ 1000 ∧ lex1 s = .ok (lls s) ∧ ∀ t ∈ lls s, ∃ T, prt t = some T := by
  cases hl : lex1 s with
  | ok L =>
    have e := lex_ok hl
    rw [e.2.2]
    unfold lex1 at hl
    split at hl
    · cases hl
    · exact ⟨by omega, rfl, lxl_next _ _ _ _ hl (fun t ht => by simp at ht)⟩
  | error r =>
    obtain ⟨p, c⟩ := r
    have e := lex_err hl
    rw [e.2.1] at h
    unfold lex1 at hl
    split at hl
    · simp only [Except.error.injEq, Prod.mk.injEq] at hl; omega
    · exact absurd h (lxl_code _ _ _ _ _ (Nat.zero_le _) (by omega) hl)

theorem prI_tk (t : Tk) : prI (Tk.i t) = prt t := by
  unfold prI Tk.i
  simp only [Int.toNat_natCast]
  by_cases h : t.kind < 1 ∨ 8 < t.kind ∨ 1000000 < t.n
  · rw [if_pos (by omega)]
    unfold prt
    rw [if_pos h]
  · rw [if_neg (by omega)]
    rfl

theorem elts_le : ∀ {L : List (Nat → Bool)} {T : List Nat}, elts L = some T → T.length ≤ 2400 * L.length
| [], T, h => by cases h; simp
| f :: L, T, h => by
  unfold elts at h
  have hf := elt_le f
  cases ha : elt f with
  | none => rw [ha] at h; simp at h
  | some a =>
    rw [ha] at hf
    cases hb : elts L with
    | none => rw [ha, hb] at h; simp at h
    | some b =>
      rw [ha, hb] at h
      simp only [Option.some.injEq] at h
      subst h
      have := elts_le hb
      simp only [Option.getD_some] at hf
      rw [List.length_append, List.length_cons]
      omega

set_option maxRecDepth 100000 in
theorem prt_le {t : Tk} {T : List Nat} (h : prt t = some T) : T.length ≤ 160000 := by
  unfold prt at h
  split at h
  · cases h
  rename_i h0
  split at h
  · split at h
    · cases h
    · rename_i h1
      split at h
      · rename_i A e
        cases h
        have h2 := elts_le e
        simp only [List.length_cons, List.length_append, List.length_nil]
        omega
      · cases h
  split at h
  · cases h
  split at h
  · cases h
    have := dgs_le7 (show t.n ≤ 1000000 by omega)
    simp only [List.length_cons]
    omega
  split at h
  · cases h
  · cases h
    simp only [List.length_cons, List.length_nil]
    omega

theorem agt_le : ∀ (Y : List Tk), (agt Y).length ≤ 160001 * Y.length
  | [] => by simp [agt]
  | t :: Y => by
    have h := agt_le Y
    rw [agt_cons]
    simp only [List.length_append, List.length_cons, List.length_nil]
    cases e : prt t with
    | none => simp only [Option.getD_none, List.length_nil]; omega
    | some T =>
      have := prt_le e
      simp only [Option.getD_some]
      omega

theorem agt_sml : ∀ {Y : List Tk}, (∀ t ∈ Y, ∃ T, prt t = some T) → sml8 (agt Y)
  | [], _ => by simpa [agt] using sml8_nil
  | t :: Y, h => by
    obtain ⟨T, hT⟩ := h t (by simp)
    rw [agt_cons, hT]
    exact sml8_app (sml8_app (prt_sml hT) (sml8_cons (by omega) sml8_nil)) (agt_sml fun x hx => h x (by simp [hx]))

/-- Tokens that are alike, but for their places. -/
structure Alp (x y : Tv) : Prop where
  kind : y.i.kind = x.i.kind
  n : y.i.n = x.i.n
  len : y.i.p.length = x.i.p.length
  cls : ∀ j, j < x.i.p.length → sm (Cls.at' x.i.p j) (Cls.at' y.i.p j) = true

/-- What is printed is read again. -/
theorem lex_again {Y : List Tk} (h : ∀ t ∈ Y, ∃ T, prt t = some T) (hn : (agt Y).length ≤ 1000) : lcd (tbs (agt Y)) = 0 ∧ (lls (tbs (agt Y))).length = Y.length ∧ ∀ i, (h : i < (lls (tbs (agt Y))).length) → (h' : i < Y.length) → tsm (lls (tbs (agt Y)))[i] Y[i] := by
  obtain ⟨M, hM, hl, hr⟩ := lxl_again (s := tbs (agt Y)) Y ((tbs (agt Y)).size + 1) 0 [] h (hat_self (agt_sml h)) (by rw [tbs_size]; omega) (by rw [tbs_size]; omega)
  have h1 : lex1 (tbs (agt Y)) = .ok M := by
    unfold lex1
    rw [if_neg (by rw [tbs_size]; omega), hM]
    rfl
  obtain ⟨_, e2, e3⟩ := lex_ok h1
  rw [e2]
  refine ⟨rfl, by rw [e3]; exact hl, ?_⟩
  rw [e3]
  exact hr

end Cls
end Go.Proofs.YtljahelbbafhlaaDoor
