/- Where reading ends: no place behind the text's end; how many tokens there are. Plain. Texts of tokens are bytes; they stand in the text that is made of them. Plain. Contract of beagleref13.Same, for rows that are alike. (Written by mktk16.py.) Tokens that are printed one behind the other, a blank behind each, are read again. Plain. What TokenRows wants: two bits of an int; rows that are written token by token. Plain. -/
import Derived.Test.YtbnnobeahliffaaGreatDoorTkMore
import Derived.Test.YtbnnobeahliffaaGreatDoorTkRd8
import Derived.Test.YtbnnobeahliffaaGreatDoorTkWrt
import Derived.Test.YtbnnobeahliffaaGreatDoorLfA
import Derived.Test.YtbnnobeahliffaaGreatDoorTkRow
import Derived.Test.YtbnnobeahliffaaGreatDoorTkPr1

set_option linter.unusedVariables false
namespace Go.Proofs.YtbnnobeahliffaaGreatDoor
namespace Cls

theorem esp_end {s : ByteArray} {q p c : Nat} (h : esp s q = .error (p, c)) : p = q := by
  unfold esp at h
  split at h
  · cases h
  split at h
  · cases h
  · simp only [Except.error.injEq, Prod.mk.injEq] at h; omega

theorem itm_end {s : ByteArray} {q p c : Nat} (h : itm s q = .error (p, c)) : p ≤ s.size := by
  unfold itm at h
  split at h
  · simp only [Except.error.injEq, Prod.mk.injEq] at h; omega
  split at h
  · have := esp_end h; omega
  split at h
  · simp only [Except.error.injEq, Prod.mk.injEq] at h; omega
  · cases h

theorem cli_end {s : ByteArray} : ∀ (fuel q : Nat) (out : Nat → Bool) (items p c : Nat), q ≤ s.size → cli s fuel q out items = .error (p, c) → p ≤ s.size
  | 0, q, _, _, p, c, hq, h => by rw [cli] at h; simp only [Except.error.injEq, Prod.mk.injEq] at h; omega
  | fuel + 1, q, out, items, p, c, hq, h => by
    rw [cli] at h
    split at h
    · cases h
    · split at h
      · rename_i e e1
        simp only [Except.error.injEq] at h
        subst h
        exact itm_end e1
      · rename_i a at1 e1
        have n1 := itm_next e1
        split at h
        · split at h
          · rename_i e e2
            simp only [Except.error.injEq] at h
            subst h
            exact itm_end e2
          · rename_i b at2 e2
            have n2 := itm_next e2
            split at h
            · simp only [Except.error.injEq, Prod.mk.injEq] at h; omega
            · exact cli_end fuel _ _ _ p c n2.2.1 h
        · exact cli_end fuel _ _ _ p c n1.2.1 h

theorem clr_end {s : ByteArray} {q p c : Nat} (hq : q < s.size) (h : clr s q = .error (p, c)) : p ≤ s.size := by
  unfold clr at h
  cases e1 : cli s (s.size + 1) (if q + 1 < s.size ∧ byt s (q + 1) = 94 then q + 2 else q + 1) (fun _ => false) 0 with
  | error e =>
    rw [e1] at h
    simp only [Except.error.injEq] at h
    subst h
    exact cli_end _ _ _ _ _ _ (by split <;> omega) e1
  | ok x =>
    obtain ⟨⟨out, items⟩, at1⟩ := x
    rw [e1] at h
    simp only at h
    by_cases hc : items = 0 ∨ cb (if q + 1 < s.size ∧ byt s (q + 1) = 94 then fun x => !out x else out) 0 256 = 0
    · rw [if_pos hc] at h
      simp only [Except.error.injEq, Prod.mk.injEq] at h
      omega
    · rw [if_neg hc] at h; cases h

theorem elm_end {s : ByteArray} {q p c : Nat} (hq : q < s.size) (h : elm s q = .error (p, c)) : p ≤ s.size := by
  unfold elm at h
  split at h
  · cases h
  split at h
  · exact clr_end hq h
  split at h
  · split at h
    · rename_i e e1
      simp only [Except.error.injEq] at h
      subst h
      have := esp_end e1
      omega
    · cases h
  split at h
  · simp only [Except.error.injEq, Prod.mk.injEq] at h; omega
  · cases h

theorem ptl_end {s : ByteArray} : ∀ (fuel q : Nat) (out : List (Nat → Bool)) (p c : Nat), q ≤ s.size → ptl s fuel q out = .error (p, c) → p ≤ s.size
  | 0, q, _, p, c, hq, h => by rw [ptl] at h; simp only [Except.error.injEq, Prod.mk.injEq] at h; omega
  | fuel + 1, q, out, p, c, hq, h => by
    rw [ptl] at h
    split at h
    · simp only [Except.error.injEq, Prod.mk.injEq] at h; omega
    split at h
    · split at h
      · simp only [Except.error.injEq, Prod.mk.injEq] at h; omega
      · cases h
    split at h
    · simp only [Except.error.injEq, Prod.mk.injEq] at h; omega
    split at h
    · rename_i e e1
      simp only [Except.error.injEq] at h
      subst h
      exact elm_end (by omega) e1
    · rename_i f n e1
      exact ptl_end fuel _ _ p c (elm_next (by omega) e1).2.1 h

theorem nmb_end {s : ByteArray} {q p c : Nat} (h : nmb s q = .error (p, c)) : p = q := by
  unfold nmb at h
  split at h
  · simp only [Except.error.injEq, Prod.mk.injEq] at h; omega
  · cases h

theorem tok1_end {s : ByteArray} {q p c : Nat} (hq : q < s.size) (h : tok1 s q = .error (p, c)) : p ≤ s.size := by
  unfold tok1 at h
  split at h
  · split at h
    · rename_i e e1
      simp only [Except.error.injEq] at h
      subst h
      exact ptl_end _ _ _ _ _ (by omega) e1
    · cases h
  split at h
  · simp only [Except.error.injEq, Prod.mk.injEq] at h; omega
  split at h
  · cases h
  split at h
  · rename_i e e1
    simp only [Except.error.injEq] at h
    subst h
    have := nmb_end e1
    omega
  · cases h

theorem lxl_end {s : ByteArray} : ∀ (fuel q : Nat) (out : List Tk) (p c : Nat), q ≤ s.size → lxl s fuel q out = .error (p, c) → p ≤ s.size
  | 0, q, _, p, c, hq, h => by rw [lxl] at h; simp only [Except.error.injEq, Prod.mk.injEq] at h; omega
  | fuel + 1, q, out, p, c, hq, h => by
    rw [lxl] at h
    split at h
    · cases h
    split at h
    · exact lxl_end fuel _ _ p c (by omega) h
    split at h
    · rename_i e e1
      simp only [Except.error.injEq] at h
      subst h
      exact tok1_end (by omega) e1
    · rename_i t n e1
      exact lxl_end fuel _ _ p c (tok1_next (by omega) e1).2.1 h

theorem lxl_few {s : ByteArray} : ∀ (fuel q : Nat) (out L : List Tk), lxl s fuel q out = .ok L → L.length ≤ out.length + fuel
  | 0, q, out, L, h => by rw [lxl] at h; cases h
  | fuel + 1, q, out, L, h => by
    rw [lxl] at h
    split at h
    · simp only [Except.ok.injEq] at h
      subst h
      omega
    split at h
    · have := lxl_few fuel _ _ L h; omega
    split at h
    · cases h
    · have := lxl_few fuel _ _ L h
      rw [List.length_append, List.length_singleton] at this
      omega

theorem lpl_le (s : ByteArray) : lpl s ≤ s.size := by
  cases h : lex1 s with
  | ok L => rw [(lex_ok h).1]; exact Nat.le_refl _
  | error e =>
    obtain ⟨p, c⟩ := e
    rw [(lex_err h).1]
    unfold lex1 at h
    split at h
    · simp only [Except.error.injEq, Prod.mk.injEq] at h; omega
    · exact lxl_end _ _ _ _ _ (Nat.zero_le _) h

theorem lls_few (s : ByteArray) : (lls s).length ≤ s.size + 1 := by
  cases h : lex1 s with
  | ok L =>
    rw [(lex_ok h).2.2]
    unfold lex1 at h
    split at h
    · cases h
    · have := lxl_few _ _ _ _ h
      simp at this
      exact this
  | error e =>
    obtain ⟨p, c⟩ := e
    rw [(lex_err h).2.2]
    simp

theorem lls_len {s : ByteArray} {L : List Tv} (h : L.map Tv.i = (lls s).map Tk.i) : L.length ≤ s.size + 1 := by
  have := congrArg List.length h
  simp only [List.length_map] at this
  have := lls_few s
  omega

end Cls

end Go.Proofs.YtbnnobeahliffaaGreatDoor

set_option linter.unusedVariables false
namespace Go.Proofs.YtbnnobeahliffaaGreatDoor
namespace Cls

/-- Bytes. -/
def sml8 (L : List Nat) : Prop := ∀ x ∈ L, x < 256

theorem sml8_app {L M : List Nat} (h : sml8 L) (h' : sml8 M) : sml8 (L ++ M) := fun x hx => by
  rcases List.mem_append.1 hx with h1 | h1
  · exact h x h1
  · exact h' x h1

theorem sml8_cons {a : Nat} {L : List Nat} (h : a < 256) (h' : sml8 L) : sml8 (a :: L) := fun x hx => by
  rcases List.mem_cons.1 hx with h1 | h1
  · omega
  · exact h' x h1

theorem sml8_nil : sml8 [] := fun x hx => by simp at hx

theorem hexd_sml {n : Nat} (h : n < 16) : hexd n < 256 := by unfold hexd; split <;> omega

theorem wrt_sml {b : Nat} (h : b < 256) (A : List Nat) : sml8 (wrt b A) := by
  unfold wrt
  split
  · exact sml8_cons (by omega) (sml8_cons (by omega) (sml8_cons (hexd_sml (by omega)) (sml8_cons (hexd_sml (by omega)) sml8_nil)))
  · split
    · exact sml8_cons (by omega) (sml8_cons h sml8_nil)
    · exact sml8_cons h sml8_nil

theorem run1_sml {r : Nat × Nat} (h1 : r.1 < 256) (h2 : r.2 < 256) : sml8 (run1 r) := by
  unfold run1
  refine sml8_app (wrt_sml h1 _) (sml8_app ?_ ?_)
  · split
    · exact sml8_cons (by omega) sml8_nil
    · exact sml8_nil
  · split
    · exact wrt_sml h2 _
    · exact sml8_nil

theorem elt_sml {f : Nat → Bool} {T : List Nat} (h : elt f = some T) : sml8 T := by
  unfold elt at h
  split at h
  · cases h
  split at h
  · cases h; exact sml8_cons (by omega) sml8_nil
  split at h
  · cases h; exact wrt_sml (bt_lt f) _
  · cases h
    refine sml8_cons (by omega) (sml8_app ?_ (sml8_cons (by omega) sml8_nil))
    intro x hx
    unfold runs1 at hx
    obtain ⟨r, hr, hx⟩ := List.mem_flatMap.1 hx
    have := rr_lt f 256 r hr
    exact run1_sml (by omega) (by omega) x hx

theorem elts_sml : ∀ {L : List (Nat → Bool)} {T : List Nat}, elts L = some T → sml8 T
  | [], T, h => by cases h; exact sml8_nil
  | f :: L, T, h => by
    unfold elts at h
    cases ha : elt f with
    | none => rw [ha] at h; simp at h
    | some a =>
      cases hb : elts L with
      | none => rw [ha, hb] at h; simp at h
      | some b =>
        rw [ha, hb] at h
        simp only [Option.some.injEq] at h
        subst h
        exact sml8_app (elt_sml ha) (elts_sml hb)

theorem dgs_sml (n : Nat) : sml8 (dgs n) := by
  induction n using Nat.strongRecOn with
  | _ n ih =>
    by_cases h : n < 10
    · rw [dgs_one h]; exact sml8_cons (by omega) sml8_nil
    · rw [dgs_more h]
      exact sml8_app (ih (n / 10) (by omega)) (sml8_cons (by omega) sml8_nil)

theorem signs_lt (k : Nat) : signs.getD k 0 < 256 := by
  by_cases h : k < 7
  · have : k = 0 ∨ k = 1 ∨ k = 2 ∨ k = 3 ∨ k = 4 ∨ k = 5 ∨ k = 6 := by omega
    rcases this with rfl | rfl | rfl | rfl | rfl | rfl | rfl <;> decide
  · have : signs.getD k 0 = 0 := by rw [List.getD, List.getElem?_eq_none (by show 7 ≤ k; omega)]; rfl
    omega

theorem prt_sml {t : Tk} {T : List Nat} (h : prt t = some T) : sml8 T := by
  unfold prt at h
  split at h
  · cases h
  split at h
  · split at h
    · cases h
    · split at h
      · rename_i A e
        cases h
        exact sml8_cons (by omega) (sml8_app (elts_sml e) (sml8_cons (by omega) sml8_nil))
      · cases h
  split at h
  · cases h
  split at h
  · cases h
    exact sml8_cons (signs_lt _) (dgs_sml _)
  split at h
  · cases h
  · cases h
    exact sml8_cons (signs_lt _) sml8_nil

theorem byt_tbs (L : List Nat) (i : Nat) (h : i < L.length) (hs : sml8 L) : byt (tbs L) i = L[i] := by
  have hz : i < (tbs L).size := by rw [tbs_size]; exact h
  have h8 := hs L[i] (List.getElem_mem h)
  rw [byt_at _ _ hz]
  show ((tbs L).data[i]'hz).toNat = _
  simp only [tbs, List.getElem_toArray, List.getElem_map]
  simp [Nat.mod_eq_of_lt h8]

/-- A text stands where it is put. -/
theorem hat_tbs : ∀ (T A B : List Nat), sml8 (A ++ (T ++ B)) → hat (tbs (A ++ (T ++ B))) A.length T
  | [], A, B, h => by
    unfold hat
    rw [tbs_size, List.length_append]
    omega
  | c :: T, A, B, h => by
    unfold hat
    have hz : (tbs (A ++ (c :: T ++ B))).size = A.length + (T.length + 1 + B.length) := by
      rw [tbs_size, List.length_append, List.length_append, List.length_cons]
    refine ⟨by omega, ?_, ?_⟩
    · rw [byt_tbs _ _ (by rw [tbs_size] at hz; omega) h]
      simp
    · have e : A ++ (c :: T ++ B) = (A ++ [c]) ++ (T ++ B) := by simp
      have ih := hat_tbs T (A ++ [c]) B (by rw [← e]; exact h)
      rw [← e, List.length_append, List.length_singleton] at ih
      exact ih

theorem hat_self {T : List Nat} (h : sml8 T) : hat (tbs T) 0 T := by
  have := hat_tbs T [] [] (by simpa using h)
  simpa using this

/-- A token's text is read as the token. -/
theorem lex_prt {t : Tk} {T : List Nat} (hT : prt t = some T) (hn : T.length ≤ 1000) : ∃ u, lex1 (tbs T) = .ok [u] ∧ tsm u t ∧ u.at' = 0 :=
  lex_one hT (hat_self (prt_sml hT)) (by rw [tbs_size]) (by rw [tbs_size]; exact hn)

theorem sml_len : ∀ {L M : List (Nat → Bool)}, sml' L M → L.length = M.length
  | [], [], _ => rfl
  | _ :: L, _ :: M, h => by rw [List.length_cons, List.length_cons, sml_len h.2]

theorem sml_at : ∀ {L M : List (Nat → Bool)}, sml' L M → ∀ j, j < L.length → sm (at' L j) (at' M j) = true
  | [], [], _, j, hj => by simp at hj
  | f :: L, g :: M, h, 0, _ => h.1
  | f :: L, g :: M, h, j + 1, hj => sml_at h.2 j (by simpa using hj)

end Cls

end Go.Proofs.YtbnnobeahliffaaGreatDoor

set_option linter.unusedVariables false
namespace Go.Proofs.YtbnnobeahliffaaGreatDoor
open Go.RowKit
namespace Cls

/-- Tokens that are alike. -/
structure Alk (x y : Tv) : Prop where
  kind : y.i.kind = x.i.kind
  at' : y.i.at' = x.i.at'
  n : y.i.n = x.i.n
  len : y.i.p.length = x.i.p.length
  cls : ∀ j, j < x.i.p.length → sm (Cls.at' x.i.p j) (Cls.at' y.i.p j) = true

theorem Alk.of_eq {x y : Tv} (h : x.i = y.i) : Alk x y := ⟨by rw [h], by rw [h], by rw [h], by rw [h], fun j _ => by rw [h]; exact sm_refl _⟩

/-- Rows of tokens that are alike. -/
structure Alks (L M : List Tv) : Prop where
  len : M.length = L.length
  all : ∀ i, (h : i < L.length) → (h' : i < M.length) → Alk L[i] M[i]

theorem Alks.of_eq {L M : List Tv} (h : L.map Tv.i = M.map Tv.i) : Alks L M := by
  have hl : L.length = M.length := by have := congrArg List.length h; simpa using this
  refine ⟨hl.symm, fun i h1 h2 => Alk.of_eq ?_⟩
  have := congrArg (fun l => l[i]?) h
  simpa [h1, h2] using this

end Cls

end Go.Proofs.YtbnnobeahliffaaGreatDoor

set_option linter.unusedVariables false
namespace Go.Proofs.YtbnnobeahliffaaGreatDoor
namespace Cls

/-- Tokens, printed, a blank behind each. -/
def agt (Y : List Tk) : List Nat := Y.flatMap fun t => (prt t).getD [] ++ [32]

theorem agt_cons (t : Tk) (Y : List Tk) : agt (t :: Y) = ((prt t).getD [] ++ [32]) ++ agt Y := by simp [agt]

theorem agt_take (Y : List Tk) (i : Nat) (h : i < Y.length) : agt (Y.take (i + 1)) = agt (Y.take i) ++ ((prt Y[i]).getD [] ++ [32]) := by
  have e := List.take_append_getElem h
  unfold agt
  rw [← e, List.flatMap_append, List.flatMap_cons, List.flatMap_nil, List.append_nil]

theorem lxl_again {s : ByteArray} : ∀ (Y : List Tk) (fuel p : Nat) (out : List Tk), (∀ t ∈ Y, ∃ T, prt t = some T) → hat s p (agt Y) → p + (agt Y).length = s.size → (agt Y).length < fuel →
    ∃ M, lxl s fuel p out = .ok (out ++ M) ∧ M.length = Y.length ∧ ∀ i, (h : i < M.length) → (h' : i < Y.length) → tsm M[i] Y[i]
  | [], fuel, p, out, _, h, hp, hf => by
    obtain ⟨f, rfl⟩ : ∃ f, fuel = f + 1 := ⟨fuel - 1, by omega⟩
    refine ⟨[], ?_, rfl, fun i h => by simp at h⟩
    have : p = s.size := by simpa [agt] using hp
    rw [lxl, if_pos (by omega), List.append_nil]
  | t :: Y, fuel, p, out, hY, h, hp, hf => by
    obtain ⟨a, ha⟩ := hY t (by simp)
    rw [agt_cons, ha] at h hp hf
    simp only [Option.getD_some] at h hp hf
    rw [hat_app, hat_app] at h
    simp only [List.length_append, List.length_singleton] at h hp hf
    obtain ⟨⟨h1, h2⟩, h3⟩ := h
    have h32 := h2.2.1
    have hl1 := prt_len ha
    obtain ⟨g1, g2, u, hu, hs, _⟩ := tok1_prt ha h1 (fun e => by rw [h32] at e; exact absurd e.2 (by decide))
    obtain ⟨f, rfl⟩ : ∃ f, fuel = f + 2 := ⟨fuel - 2, by omega⟩
    obtain ⟨M, hM, hl, hr⟩ := lxl_again Y f (p + (a.length + 1)) (out ++ [u]) (fun x hx => hY x (by simp [hx])) h3 (by omega) (by omega)
    refine ⟨u :: M, ?_, by simp [hl], fun i hi hi' => ?_⟩
    · rw [lxl, if_neg (by omega), if_neg g2, hu]
      simp only
      rw [lxl, if_neg (by have := h2.1; omega), if_pos h32]
      have e : p + a.length + 1 = p + (a.length + 1) := by omega
      rw [e, hM, List.append_assoc]
      rfl
    · cases i with
      | zero => exact hs
      | succ i => exact hr i (by simpa using hi) (by simpa using hi')

theorem lxl_code {s : ByteArray} : ∀ (fuel q : Nat) (out : List Tk) (p c : Nat), q ≤ s.size → s.size + 1 ≤ fuel + q → lxl s fuel q out = .error (p, c) → c ≠ 0
  | 0, q, _, p, c, hq, hf, h => by omega
  | fuel + 1, q, out, p, c, hq, hf, h => by
    rw [lxl] at h
    split at h
    · cases h
    split at h
    · exact lxl_code fuel _ _ p c (by omega) (by omega) h
    split at h
    · rename_i e e1
      simp only [Except.error.injEq] at h
      subst h
      exact rcd_code0 (by omega) e1
    · rename_i t n e1
      have n1 := tok1_next (by omega) e1
      exact lxl_code fuel _ _ p c (by omega) (by omega) h

/-- No error: there are tokens, and each has its text. -/
theorem lex_told {s : ByteArray} (h : lcd s = 0) : s.size ≤ 1000 ∧ lex1 s = .ok (lls s) ∧ ∀ t ∈ lls s, ∃ T, prt t = some T := by
  cases hl : lex1 s with
  | ok L =>
    have e := lex_ok hl
    rw [e.2.2]
    unfold lex1 at hl
    split at hl
    · cases hl
    · exact ⟨by omega, rfl, lxl_next _ _ _ _ hl (fun t ht => by simp at ht)⟩
  | error r =>
    obtain ⟨p, c⟩ := r
    have e := lex_err hl
    rw [e.2.1] at h
    unfold lex1 at hl
    split at hl
    · simp only [Except.error.injEq, Prod.mk.injEq] at hl; omega
    · exact absurd h (lxl_code _ _ _ _ _ (Nat.zero_le _) (by omega) hl)

theorem prI_tk (t : Tk) : prI (Tk.i t) = prt t := by
  unfold prI Tk.i
  simp only [Int.toNat_natCast]
  by_cases h : t.kind < 1 ∨ 8 < t.kind ∨ 1000000 < t.n
  · rw [if_pos (by omega)]
    unfold prt
    rw [if_pos h]
  · rw [if_neg (by omega)]
    rfl

theorem elts_le : ∀ {L : List (Nat → Bool)} {T : List Nat}, elts L = some T → T.length ≤ 2400 * L.length
  | [], T, h => by cases h; simp
  | f :: L, T, h => by
    unfold elts at h
    have hf := elt_le f
    cases ha : elt f with
    | none => rw [ha] at h; simp at h
    | some a =>
      rw [ha] at hf
      cases hb : elts L with
      | none => rw [ha, hb] at h; simp at h
      | some b =>
        rw [ha, hb] at h
        simp only [Option.some.injEq] at h
        subst h
        have := elts_le hb
        simp only [Option.getD_some] at hf
        rw [List.length_append, List.length_cons]
        omega

set_option maxRecDepth 100000 in
theorem prt_le {t : Tk} {T : List Nat} (h : prt t = some T) : T.length ≤ 160000 := by
  unfold prt at h
  split at h
  · cases h
  rename_i h0
  split at h
  · split at h
    · cases h
    · rename_i h1
      split at h
      · rename_i A e
        cases h
        have h2 := elts_le e
        simp only [List.length_cons, List.length_append, List.length_nil]
        omega
      · cases h
  split at h
  · cases h
  split at h
  · cases h
    have := dgs_le7 (show t.n ≤ 1000000 by omega)
    simp only [List.length_cons]
    omega
  split at h
  · cases h
  · cases h
    simp only [List.length_cons, List.length_nil]
    omega

theorem agt_le : ∀ (Y : List Tk), (agt Y).length ≤ 160001 * Y.length
  | [] => by simp [agt]
  | t :: Y => by
    have h := agt_le Y
    rw [agt_cons]
    simp only [List.length_append, List.length_cons, List.length_nil]
    cases e : prt t with
    | none => simp only [Option.getD_none, List.length_nil]; omega
    | some T =>
      have := prt_le e
      simp only [Option.getD_some]
      omega

theorem agt_sml : ∀ {Y : List Tk}, (∀ t ∈ Y, ∃ T, prt t = some T) → sml8 (agt Y)
  | [], _ => by simpa [agt] using sml8_nil
  | t :: Y, h => by
    obtain ⟨T, hT⟩ := h t (by simp)
    rw [agt_cons, hT]
    exact sml8_app (sml8_app (prt_sml hT) (sml8_cons (by omega) sml8_nil)) (agt_sml fun x hx => h x (by simp [hx]))

/-- Tokens that are alike, but for their places. -/
structure Alp (x y : Tv) : Prop where
  kind : y.i.kind = x.i.kind
  n : y.i.n = x.i.n
  len : y.i.p.length = x.i.p.length
  cls : ∀ j, j < x.i.p.length → sm (Cls.at' x.i.p j) (Cls.at' y.i.p j) = true

/-- What is printed is read again. -/
theorem lex_again {Y : List Tk} (h : ∀ t ∈ Y, ∃ T, prt t = some T) (hn : (agt Y).length ≤ 1000) : lcd (tbs (agt Y)) = 0 ∧ (lls (tbs (agt Y))).length = Y.length ∧ ∀ i, (h : i < (lls (tbs (agt Y))).length) → (h' : i < Y.length) → tsm (lls (tbs (agt Y)))[i] Y[i] := by
  obtain ⟨M, hM, hl, hr⟩ := lxl_again (s := tbs (agt Y)) Y ((tbs (agt Y)).size + 1) 0 [] h (hat_self (agt_sml h)) (by rw [tbs_size]; omega) (by rw [tbs_size]; omega)
  have h1 : lex1 (tbs (agt Y)) = .ok M := by
    unfold lex1
    rw [if_neg (by rw [tbs_size]; omega), hM]
    rfl
  obtain ⟨_, e2, e3⟩ := lex_ok h1
  rw [e2]
  refine ⟨rfl, by rw [e3]; exact hl, ?_⟩
  rw [e3]
  exact hr

end Cls

end Go.Proofs.YtbnnobeahliffaaGreatDoor

set_option linter.unusedVariables false
namespace Go.Proofs.YtbnnobeahliffaaGreatDoor
namespace Cls

theorem and3 (x : Int) : ∃ r : Nat, r ≤ 3 ∧ bits .and .i64 x 3 = (r : Int) := by
  refine ⟨(BitVec.ofInt 64 x).toNat &&& 3, Nat.and_le_right, ?_⟩
  have h : (BitVec.ofInt 64 x).toNat &&& 3 ≤ 3 := Nat.and_le_right
  show IntKind.i64.wrap ((BitVec.ofInt 64 x &&& BitVec.ofInt 64 (3 : Int)).toNat : Int) = _
  rw [BitVec.toNat_and, show (BitVec.ofInt 64 (3 : Int)).toNat = 3 from rfl, IntKind.wrap_i64]
  omega

/-- One token more. -/
theorem rowt_more : ∀ {L : List (Nat × Tk)} {A T : List Nat} (b : Nat) {t : Tk}, rowt L = some A → prt t = some T → rowt (L ++ [(b, t)]) = some (A ++ (List.replicate b 32 ++ T))
  | [], A, T, b, t, h, hT => by
    cases h
    show (match prt t, rowt [] with | some a, some c => some (List.replicate b 32 ++ (a ++ c)) | _, _ => none) = _
    rw [hT]
    simp [rowt]
  | x :: L, A, T, b, t, h, hT => by
    unfold rowt at h
    cases ha : prt x.2 with
    | none => rw [ha] at h; simp at h
    | some a =>
      cases hc : rowt L with
      | none => rw [ha, hc] at h; simp at h
      | some c =>
        rw [ha, hc] at h
        simp only [Option.some.injEq] at h
        subst h
        have ih := rowt_more b hc hT
        show (match prt x.2, rowt (L ++ [(b, t)]) with | some a, some c => some (List.replicate x.1 32 ++ (a ++ c)) | _, _ => none) = _
        rw [ha, ih]
        simp

theorem rowt_sml : ∀ {L : List (Nat × Tk)} {A : List Nat}, rowt L = some A → sml8 A
  | [], A, h => by cases h; exact sml8_nil
  | x :: L, A, h => by
    unfold rowt at h
    cases ha : prt x.2 with
    | none => rw [ha] at h; simp at h
    | some a =>
      cases hc : rowt L with
      | none => rw [ha, hc] at h; simp at h
      | some c =>
        rw [ha, hc] at h
        simp only [Option.some.injEq] at h
        subst h
        refine sml8_app (fun y hy => ?_) (sml8_app (prt_sml ha) (rowt_sml hc))
        rw [List.mem_replicate] at hy
        omega

/-- A row that is written is read. -/
theorem lex_rows {L : List (Nat × Tk)} {A : List Nat} (h : rowt L = some A) (hb : ∀ x ∈ L, 1 ≤ x.1) (hn : A.length ≤ 1000) : lcd (tbs A) = 0 ∧ rowm (lls (tbs A)) 0 L := by
  obtain ⟨M, hM, hr⟩ := lxl_row (s := tbs A) L A ((tbs A).size + 1) 0 [] h hb (hat_self (rowt_sml h)) (by rw [tbs_size]; omega) (by rw [tbs_size]; omega)
  have h1 : lex1 (tbs A) = .ok M := by
    unfold lex1
    rw [if_neg (by rw [tbs_size]; omega), hM]
    rfl
  obtain ⟨_, e2, e3⟩ := lex_ok h1
  rw [e2, e3]
  exact ⟨rfl, hr⟩

/-- The tokens that are wanted, each at its place. -/
def rowv : List Tv → Nat → List (Nat × Tk) → Prop
  | [], _, [] => True
  | v :: W, p, x :: L => v.i = ⟨(x.2.kind : Int), ((p + x.1 : Nat) : Int), (x.2.n : Int), x.2.p⟩ ∧ ∃ T, prt x.2 = some T ∧ rowv W (p + x.1 + T.length) L
  | _, _, _ => False

theorem rowv_more : ∀ {W : List Tv} {L : List (Nat × Tk)} {A T : List Nat} (p b : Nat) {t : Tk} {v : Tv}, rowv W p L → rowt L = some A → prt t = some T → v.i = ⟨(t.kind : Int), ((p + A.length + b : Nat) : Int), (t.n : Int), t.p⟩ → rowv (W ++ [v]) p (L ++ [(b, t)])
  | [], [], A, T, p, b, t, v, _, hA, hT, hv => by
    cases hA
    exact ⟨hv, T, hT, trivial⟩
  | u :: W, x :: L, A, T, p, b, t, v, h, hA, hT, hv => by
    obtain ⟨hu, a, ha, hr⟩ := h
    unfold rowt at hA
    rw [ha] at hA
    cases hc : rowt L with
    | none => rw [hc] at hA; simp at hA
    | some c =>
      rw [hc] at hA
      simp only [Option.some.injEq] at hA
      subst hA
      refine ⟨hu, a, ha, rowv_more (p + x.1 + a.length) b hr hc hT ?_⟩
      rw [hv]
      simp only [List.length_append, List.length_replicate]
      have e : p + (x.1 + (a.length + c.length)) + b = p + x.1 + a.length + c.length + b := by omega
      rw [e]

theorem rowv_len : ∀ {W : List Tv} {p : Nat} {L : List (Nat × Tk)}, rowv W p L → W.length = L.length
  | [], _, [], _ => rfl
  | _ :: W, p, _ :: L, h => by
    obtain ⟨_, _, _, hr⟩ := h
    rw [List.length_cons, List.length_cons, rowv_len hr]

/-- What is read is what is wanted. -/
theorem rows_alike : ∀ {N W : List Tv} {M : List Tk} {p : Nat} {L : List (Nat × Tk)}, rowm M p L → rowv W p L → N.map Tv.i = M.map Tk.i → Alks N W
  | [], [], [], _, [], _, _, _ => ⟨rfl, fun i h => by simp at h⟩
  | n :: N, v :: W, u :: M, p, x :: L, hm, hv, hN => by
    obtain ⟨⟨m1, m2, m3⟩, ma, T, mT, mr⟩ := hm
    obtain ⟨hvi, T', vT, vr⟩ := hv
    rw [mT] at vT
    cases vT
    simp only [List.map_cons, List.cons.injEq] at hN
    have ih := rows_alike mr vr hN.2
    refine ⟨by rw [List.length_cons, List.length_cons, ih.len], fun i h1 h2 => ?_⟩
    cases i with
    | zero =>
      have hni := hN.1
      have hle := sml_len m3
      show Alk n v
      exact ⟨by rw [hvi, hni]; show ((x.2.kind : Nat) : Int) = u.kind; rw [m1], by rw [hvi, hni]; show ((p + x.1 : Nat) : Int) = u.at'; rw [ma], by rw [hvi, hni]; show ((x.2.n : Nat) : Int) = u.n; rw [m2], by rw [hvi, hni]; exact hle.symm, fun j hj => by rw [hni] at hj ⊢; rw [hvi]; exact sml_at m3 j hj⟩
    | succ i => exact ih.all i (by simpa using h1) (by simpa using h2)
  | _, _, u :: M, _, [], hm, _, _ => by cases hm
  | _, [], u :: M, _, x :: L, _, hv, _ => by cases hv
  | _, v :: W, _, _, [], _, hv, _ => by cases hv
  | _, _, [], _, x :: L, hm, _, _ => by cases hm
  | n :: N, _, [], _, _, _, _, hN => by simp at hN
  | [], _, u :: M, _, _, _, _, hN => by simp at hN

end Cls

end Go.Proofs.YtbnnobeahliffaaGreatDoor
