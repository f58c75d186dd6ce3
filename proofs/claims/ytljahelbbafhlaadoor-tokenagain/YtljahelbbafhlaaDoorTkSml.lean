/- Texts of tokens are bytes; they stand in the text that is made of them. Plain. -/
import Derived.Test.YtljahelbbafhlaaDoorTkMore
import Derived.Test.YtljahelbbafhlaaDoorTkWrt
import Derived.Test.YtljahelbbafhlaaDoorTkRd8
import Derived.Test.YtljahelbbafhlaaDoorLfA
set_option linter.unusedVariables false
namespace Go.Proofs.YtljahelbbafhlaaDoor
namespace Cls

/-- Bytes. -/
def sml8 (L : List Nat) : Prop := ∀ x ∈ L, x < 256

theorem sml8_app {L M : List Nat} (h : sml8 L) (h' : sml8 M) : sml8 (L ++ M) := fun x hx => by
  rcases List.mem_append.1 hx with h1 | h1
  · exact h x h1
  · exact h' x h1

theorem sml8_cons {a : Nat} {L : List Nat} (h : a < 256) (h' : sml8 L) : sml8 (a :: L) := fun x hx => by
  rcases List.mem_cons.1 hx with h1 | h1
  · omega
  · exact h' x h1

theorem sml8_nil : sml8 [] := fun x hx => by simp at hx

theorem hexd_lt {n : Nat} (h : n < 16) : hexd n < 256 := by unfold hexd; split <;> omega

theorem wrt_sml {b : Nat} (h : b < 256) (A : List Nat) : sml8 (wrt b A) := by
  unfold wrt
  split
  · exact sml8_cons (by omega) (sml8_cons (by omega) (sml8_cons (hexd_lt (by omega)) (sml8_cons (hexd_lt (by omega)) sml8_nil)))
  · split
    · exact sml8_cons (by omega) (sml8_cons h sml8_nil)
    · exact sml8_cons h sml8_nil

theorem run1_sml {r : Nat × Nat} (h1 : r.1 < 256) (h2 : r.2 < 256) : sml8 (run1 r) := by
  unfold run1
  refine sml8_app (wrt_sml h1 _) (sml8_app ?_ ?_)
  · split
    · exact sml8_cons (by omega) sml8_nil
    · exact sml8_nil
  · split
    · exact wrt_sml h2 _
    · exact sml8_nil

theorem elt_sml {f : Nat → Bool} {T : List Nat} (h : elt f = some T) : sml8 T := by
  unfold elt at h
  split at h
  · cases h
  split at h
  · cases h; exact sml8_cons (by omega) sml8_nil
  split at h
  · cases h; exact wrt_sml (bt_lt f) _
  · cases h
    refine sml8_cons (by omega) (sml8_app ?_ (sml8_cons (by omega) sml8_nil))
    intro x hx
    unfold runs1 at hx
    obtain ⟨r, hr, hx⟩ := List.mem_flatMap.1 hx
    have := rr_lt f 256 r hr
    exact run1_sml (by omega) (by omega) x hx

theorem elts_sml : ∀ {L : List (Nat → Bool)} {T : List Nat}, elts L = some T → sml8 T
  | [], T, h => by cases h; exact sml8_nil
  | f :: L, T, h => by
    unfold elts at h
    cases ha : elt f with
    | none => rw [ha] at h; simp at h
    | some a =>
      cases hb : elts L with
      | none => rw [ha, hb] at h; simp at h
      | some b =>
        rw [ha, hb] at h
        simp only [Option.some.injEq] at h
        subst h
        exact sml8_app (elt_sml ha) (elts_sml hb)

theorem dgs_sml (n : Nat) : sml8 (dgs n) := by
  induction n using Nat.strongRecOn with
  | _ n ih =>
    by_cases h : n < 10
    · rw [dgs_one h]; exact sml8_cons (by omega) sml8_nil
    · rw [dgs_more h]
      exact sml8_app (ih (n / 10) (by omega)) (sml8_cons (by omega) sml8_nil)

theorem signs_lt (k : Nat) : signs.getD k 0 < 256 := by
  by_cases h : k < 7
  · have : k = 0 ∨ k = 1 ∨ k = 2 ∨ k = 3 ∨ k = 4 ∨ k = 5 ∨ k = 6 := by omega
    rcases this with rfl | rfl | rfl | rfl | rfl | rfl | rfl <;> decide
  · have : signs.getD k 0 = 0 := by rw [List.getD, List.getElem?_eq_none (by show 7 ≤ k; omega)]; rfl
    omega

theorem prt_sml {t : Tk} {T : List Nat} (h : prt t = some T) : sml8 T := by
  unfold prt at h
  split at h
  · cases h
  split at h
  · split at h
    · cases h
    · split at h
      · rename_i A e
        cases h
        exact sml8_cons (by omega) (sml8_app (elts_sml e) (sml8_cons (by omega) sml8_nil))
      · cases h
  split at h
  · cases h
  split at h
  · cases h
    exact sml8_cons (signs_lt _) (dgs_sml _)
  split at h
  · cases h
  · cases h
    exact sml8_cons (signs_lt _) sml8_nil

theorem byt_tbs (L : List Nat) (i : Nat) (h : i < L.length) (hs : sml8 L) : byt (tbs L) i = L[i] := by
  have hz : i < (tbs L).size := by rw [tbs_size]; exact h
  have h8 := hs L[i] (List.getElem_mem h)
  rw [byt_at _ _ hz]
  show ((tbs L).data[i]'hz).toNat = _
  simp only [tbs, List.getElem_toArray, List.getElem_map]
  simp [Nat.mod_eq_of_lt h8]

/-- A text stands where it is put. -/
theorem hat_tbs : ∀ (T A B : List Nat), sml8 (A ++ (T ++ B)) → hat (tbs (A ++ (T ++ B))) A.length T
  | [], A, B, h => by
    unfold hat
    rw [tbs_size, List.length_append]
    omega
  | c :: T, A, B, h => by
    unfold hat
    have hz : (tbs (A ++ (c :: T ++ B))).size = A.length + (T.length + 1 + B.length) := by
      rw [tbs_size, List.length_append, List.length_append, List.length_cons]
    refine ⟨by omega, ?_, ?_⟩
    · rw [byt_tbs _ _ (by rw [tbs_size] at hz; omega) h]
      simp
    · have e : A ++ (c :: T ++ B) = (A ++ [c]) ++ (T ++ B) := by simp
      have ih := hat_tbs T (A ++ [c]) B (by rw [← e]; exact h)
      rw [← e, List.length_append, List.length_singleton] at ih
      exact ih

theorem hat_self {T : List Nat} (h : sml8 T) : hat (tbs T) 0 T := by
  have := hat_tbs T [] [] (by simpa using h)
  simpa using this

/-- A token's text is read as the token. -/
theorem lex_prt {t : Tk} {T : List Nat} (hT : prt t = some T) (hn : T.length ≤ 1000) : ∃ u, lex1 (tbs T) = .ok [u] ∧ tsm u t ∧ u.at' = 0 :=
  lex_one hT (hat_self (prt_sml hT)) (by rw [tbs_size]) (by rw [tbs_size]; exact hn)

theorem sml_len : ∀ {L M : List (Nat → Bool)}, sml' L M → L.length = M.length
  | [], [], _ => rfl
  | _ :: L, _ :: M, h => by rw [List.length_cons, List.length_cons, sml_len h.2]

theorem sml_at : ∀ {L M : List (Nat → Bool)}, sml' L M → ∀ j, j < L.length → sm (at' L j) (at' M j) = true
  | [], [], _, j, hj => by simp at hj
  | f :: L, g :: M, h, 0, _ => h.1
  | f :: L, g :: M, h, j + 1, hj => sml_at h.2 j (by simpa using hj)

end Cls
end Go.Proofs.YtljahelbbafhlaaDoor
