/- Tokens: a text that is refused at a byte is refused there whatever follows: plain. -/
import Derived.Test.YtbnnobeahliffaaGreatDoorTkMore
namespace Go.Proofs.YtbnnobeahliffaaGreatDoor
open Go.RowKit
namespace Cls

/-- Two texts have the same first m bytes. -/
structure Agr (s u : ByteArray) (m : Nat) : Prop where
  l : m ≤ s.size
  r : m ≤ u.size
  e : ∀ k, k < m → byt u k = byt s k

theorem esp_agr {s u : ByteArray} {m q b n : Nat} (h : Agr s u m) (he : esp s q = .ok (b, n)) (hn : n ≤ m) : esp u q = .ok (b, n) := by
  have hl := h.l
  have hr := h.r
  unfold esp at he ⊢
  split at he
  · rename_i hc
    simp only [Except.ok.injEq, Prod.mk.injEq] at he
    obtain ⟨rfl, rfl⟩ := he
    rw [h.e (q + 1) (by omega), if_pos ⟨by omega, hc.2⟩]
  · rename_i hc
    split at he
    · rename_i hd
      simp only [Except.ok.injEq, Prod.mk.injEq] at he
      obtain ⟨rfl, rfl⟩ := he
      rw [h.e (q + 1) (by omega), h.e (q + 2) (by omega), h.e (q + 3) (by omega), if_neg (fun e => hc ⟨by omega, e.2⟩), if_pos ⟨by omega, hd.2⟩]
    · cases he

theorem itm_agr {s u : ByteArray} {m q b n : Nat} (h : Agr s u m) (he : itm s q = .ok (b, n)) (hn : n ≤ m) : itm u q = .ok (b, n) := by
  have hx := itm_next he
  have hl := h.l
  have hr := h.r
  unfold itm at he ⊢
  rw [h.e q (by omega), if_neg (by omega)]
  rw [if_neg (by omega)] at he
  split at he
  · rename_i h1
    rw [if_pos h1]
    exact esp_agr h he hn
  · rename_i h1
    rw [if_neg h1]
    exact he

theorem cli_agr {s u : ByteArray} {m : Nat} (h : Agr s u m) : ∀ (fuel fuel' q : Nat) (out : Nat → Bool) (items : Nat) (o : (Nat → Bool) × Nat) (n : Nat), cli s fuel q out items = .ok (o, n) → n < m → n - q < fuel' → cli u fuel' q out items = .ok (o, n)
  | 0, _, _, _, _, _, _, he, _, _ => by cases he
  | fuel + 1, fuel', q, out, items, o, n, he, hn, hf => by
    have hl := h.l
    have hr := h.r
    have hq := (cli_next (fuel + 1) q out items o.1 o.2 n he).1
    obtain ⟨f', rfl⟩ : ∃ f', fuel' = f' + 1 := ⟨fuel' - 1, by omega⟩
    rw [cli] at he ⊢
    rw [h.e q (by omega)]
    split at he
    · rename_i hc
      rw [if_pos ⟨by omega, hc.2⟩]
      exact he
    · rename_i hc
      rw [if_neg (fun e => hc ⟨by omega, e.2⟩)]
      split at he
      · cases he
      · rename_i a at1 e1
        have n1 := itm_next e1
        split at he
        · rename_i h45
          split at he
          · cases he
          · rename_i b at2 e2
            have n2 := itm_next e2
            split at he
            · cases he
            · rename_i hab
              have hq2 := (cli_next fuel at2 _ _ o.1 o.2 n he).1
              rw [itm_agr h e1 (by omega)]
              simp only
              rw [h.e at1 (by omega), if_pos ⟨by omega, h45.2⟩, itm_agr h e2 (by omega)]
              simp only
              rw [if_neg hab]
              exact cli_agr h fuel f' at2 _ _ o n he hn (by omega)
        · rename_i h45
          have hq2 := (cli_next fuel at1 _ _ o.1 o.2 n he).1
          rw [itm_agr h e1 (by omega)]
          simp only
          rw [h.e at1 (by omega), if_neg (fun e => h45 ⟨by omega, e.2⟩)]
          exact cli_agr h fuel f' at1 _ _ o n he hn (by omega)

theorem clr_agr {s u : ByteArray} {m q n : Nat} {o : Nat → Bool} (h : Agr s u m) (he : clr s q = .ok (o, n)) (hn : n ≤ m) : clr u q = .ok (o, n) := by
  have hl := h.l
  have hr := h.r
  unfold clr at he ⊢
  cases e1 : cli s (s.size + 1) (if q + 1 < s.size ∧ byt s (q + 1) = 94 then q + 2 else q + 1) (fun _ => false) 0 with
  | error e => rw [e1] at he; cases he
  | ok x =>
    obtain ⟨⟨out, items⟩, at1⟩ := x
    rw [e1] at he
    simp only at he
    have hx := cli_next _ _ _ _ _ _ _ e1
    have hn1 : at1 < m := by
      by_cases hc : items = 0 ∨ cb (if q + 1 < s.size ∧ byt s (q + 1) = 94 then fun x => !out x else out) 0 256 = 0
      · rw [if_pos hc] at he; cases he
      · rw [if_neg hc] at he
        simp only [Except.ok.injEq, Prod.mk.injEq] at he
        omega
    have hq1 : q + 1 ≤ at1 := by
      have := hx.1
      split at this <;> omega
    have hcond : (q + 1 < u.size ∧ byt u (q + 1) = 94) = (q + 1 < s.size ∧ byt s (q + 1) = 94) := by
      rw [h.e (q + 1) (by omega)]
      exact propext ⟨fun e => ⟨by omega, e.2⟩, fun e => ⟨by omega, e.2⟩⟩
    simp only [hcond]
    rw [cli_agr h _ (u.size + 1) _ _ _ _ _ e1 hn1 (by omega)]
    exact he

theorem elm_agr {s u : ByteArray} {m q n : Nat} {o : Nat → Bool} (h : Agr s u m) (hq : q < s.size) (he : elm s q = .ok (o, n)) (hn : n ≤ m) : elm u q = .ok (o, n) := by
  have hx := elm_next hq he
  unfold elm at he ⊢
  rw [h.e q (by omega)]
  split at he
  · rename_i h1
    rw [if_pos h1]
    exact he
  rename_i h1
  rw [if_neg h1]
  split at he
  · rename_i h2
    rw [if_pos h2]
    exact clr_agr h he hn
  rename_i h2
  rw [if_neg h2]
  split at he
  · rename_i h3
    rw [if_pos h3]
    split at he
    · cases he
    · rename_i b k e1
      simp only [Except.ok.injEq, Prod.mk.injEq] at he
      obtain ⟨rfl, rfl⟩ := he
      rw [esp_agr h e1 hn]
  · rename_i h3
    rw [if_neg h3]
    exact he

theorem ptl_agr {s u : ByteArray} {m : Nat} (h : Agr s u m) : ∀ (fuel fuel' q : Nat) (out P : List (Nat → Bool)) (n : Nat), ptl s fuel q out = .ok (P, n) → n ≤ m → n - q ≤ fuel' → ptl u fuel' q out = .ok (P, n)
  | 0, _, _, _, _, _, he, _, _ => by cases he
  | fuel + 1, fuel', q, out, P, n, he, hn, hf => by
    have hl := h.l
    have hr := h.r
    rw [ptl] at he
    split at he
    · cases he
    rename_i hq
    split at he
    · rename_i h34
      split at he
      · cases he
      · rename_i h0
        simp only [Except.ok.injEq, Prod.mk.injEq] at he
        obtain ⟨rfl, rfl⟩ := he
        obtain ⟨f', rfl⟩ : ∃ f', fuel' = f' + 1 := ⟨fuel' - 1, by omega⟩
        rw [ptl, if_neg (by omega), h.e q (by omega), if_pos h34, if_neg h0]
    rename_i h34
    split at he
    · cases he
    rename_i h64
    split at he
    · cases he
    · rename_i c k e1
      have n1 := elm_next (by omega) e1
      have hk : k < n := by
        cases fuel with
        | zero => cases he
        | succ f =>
          rw [ptl] at he
          split at he
          · cases he
          split at he
          · split at he
            · cases he
            · simp only [Except.ok.injEq, Prod.mk.injEq] at he; omega
          split at he
          · cases he
          split at he
          · cases he
          · rename_i c2 k2 e2
            have n2 := elm_next (by omega) e2
            have := ptl_mono he
            omega
      obtain ⟨f', rfl⟩ : ∃ f', fuel' = f' + 1 := ⟨fuel' - 1, by omega⟩
      rw [ptl, if_neg (by omega), h.e q (by omega), if_neg h34, if_neg h64, elm_agr h (by omega) e1 (by omega)]
      exact ptl_agr h fuel f' k _ P n he hn (by omega)
 where
  ptl_mono {s : ByteArray} {fuel q : Nat} {out P : List (Nat → Bool)} {n : Nat} (he : ptl s fuel q out = .ok (P, n)) : q < n := by
    induction fuel generalizing q out with
    | zero => cases he
    | succ f ih =>
      rw [ptl] at he
      split at he
      · cases he
      split at he
      · split at he
        · cases he
        · simp only [Except.ok.injEq, Prod.mk.injEq] at he; omega
      split at he
      · cases he
      split at he
      · cases he
      · rename_i c k e1
        have n1 := elm_next (by omega) e1
        have := ih he
        omega

theorem nml_agr {s u : ByteArray} {m : Nat} (h : Agr s u m) : ∀ (fuel fuel' q v n w : Nat), nml s fuel q v = (n, w) → n < m → n - q < fuel → n - q < fuel' → nml u fuel' q v = (n, w)
  | 0, _, _, _, _, _, _, _, hf, _ => by omega
  | fuel + 1, fuel', q, v, n, w, he, hn, hf, hf' => by
    have hl := h.l
    have hr := h.r
    have hq := (nml_next (s := s) (fuel + 1) q v).1
    rw [he] at hq
    simp only at hq
    obtain ⟨f', rfl⟩ : ∃ f', fuel' = f' + 1 := ⟨fuel' - 1, by omega⟩
    rw [nml] at he ⊢
    rw [h.e q (by omega)]
    split at he
    · rename_i hc
      rw [if_pos ⟨by omega, hc.2⟩]
      have hq2 := (nml_next (s := s) fuel (q + 1) (if v ≤ 1000000 then 10 * v + (byt s q - 48) else v)).1
      rw [he] at hq2
      simp only at hq2
      exact nml_agr h fuel f' (q + 1) _ n w he hn (by omega) (by omega)
    · rename_i hc
      rw [if_neg (fun e => hc ⟨by omega, e.2⟩)]
      exact he

theorem nmb_agr {s u : ByteArray} {m q v n : Nat} (h : Agr s u m) (he : nmb s q = .ok (v, n)) (hn : n < m) : nmb u q = .ok (v, n) := by
  have hl := h.l
  have hr := h.r
  have hx := nmb_next he
  have e1 : nml s (s.size + 1) q 0 = (n, v) := by
    unfold nmb at he
    split at he
    · cases he
    · simp only [Except.ok.injEq, Prod.mk.injEq] at he
      rw [← he.1, ← he.2]
  have e2 : nml u (u.size + 1) q 0 = (n, v) := nml_agr h _ _ q 0 n v e1 hn (by omega) (by omega)
  unfold nmb at he ⊢
  rw [e1] at he
  rw [e2, h.e q (by omega)]
  exact he

theorem tok1_agr {s u : ByteArray} {m q n : Nat} {t : Tk} (h : Agr s u m) (hq : q < s.size) (he : tok1 s q = .ok (t, n)) (hn : n < m) : tok1 u q = .ok (t, n) := by
  have hl := h.l
  have hr := h.r
  have hx := tok1_next hq he
  unfold tok1 at he ⊢
  rw [h.e q (by omega)]
  split at he
  · rename_i h1
    rw [if_pos h1]
    split at he
    · cases he
    · rename_i P k e1
      simp only [Except.ok.injEq, Prod.mk.injEq] at he
      obtain ⟨rfl, rfl⟩ := he
      rw [ptl_agr h _ (u.size + 1) _ _ _ _ e1 (by omega) (by omega)]
  rename_i h1
  rw [if_neg h1]
  split at he
  · cases he
  rename_i h2
  rw [if_neg h2]
  split at he
  · rename_i h3
    rw [if_pos h3]
    exact he
  · rename_i h3
    rw [if_neg h3]
    split at he
    · cases he
    · rename_i v k e1
      simp only [Except.ok.injEq, Prod.mk.injEq] at he
      obtain ⟨rfl, rfl⟩ := he
      rw [nmb_agr h e1 hn]

theorem esp_code {s : ByteArray} {q p c : Nat} (h : esp s q = .error (p, c)) : c = 131 := by
  unfold esp at h
  split at h
  · cases h
  split at h
  · cases h
  · simp only [Except.error.injEq, Prod.mk.injEq] at h; omega

theorem itm_code {s : ByteArray} {q p c : Nat} (h : itm s q = .error (p, c)) : c ≠ 130 := by
  unfold itm at h
  split at h
  · simp only [Except.error.injEq, Prod.mk.injEq] at h; omega
  split at h
  · have := esp_code h; omega
  split at h
  · simp only [Except.error.injEq, Prod.mk.injEq] at h; omega
  · cases h

theorem cli_code {s : ByteArray} : ∀ (fuel q : Nat) (out : Nat → Bool) (items p c : Nat), cli s fuel q out items = .error (p, c) → c ≠ 130
  | 0, _, _, _, p, c, h => by rw [cli] at h; simp only [Except.error.injEq, Prod.mk.injEq] at h; omega
  | fuel + 1, q, out, items, p, c, h => by
    rw [cli] at h
    split at h
    · cases h
    · split at h
      · rename_i e e1
        simp only [Except.error.injEq] at h
        subst h
        exact itm_code e1
      · split at h
        · split at h
          · rename_i e e1
            simp only [Except.error.injEq] at h
            subst h
            exact itm_code e1
          · split at h
            · simp only [Except.error.injEq, Prod.mk.injEq] at h; omega
            · exact cli_code fuel _ _ _ p c h
        · exact cli_code fuel _ _ _ p c h

theorem clr_code {s : ByteArray} {q p c : Nat} (h : clr s q = .error (p, c)) : c ≠ 130 := by
  unfold clr at h
  cases e1 : cli s (s.size + 1) (if q + 1 < s.size ∧ byt s (q + 1) = 94 then q + 2 else q + 1) (fun _ => false) 0 with
  | error e =>
    rw [e1] at h
    simp only [Except.error.injEq] at h
    subst h
    exact cli_code _ _ _ _ _ _ e1
  | ok x =>
    obtain ⟨⟨out, items⟩, at1⟩ := x
    rw [e1] at h
    simp only at h
    by_cases hc : items = 0 ∨ cb (if q + 1 < s.size ∧ byt s (q + 1) = 94 then fun x => !out x else out) 0 256 = 0
    · rw [if_pos hc] at h
      simp only [Except.error.injEq, Prod.mk.injEq] at h
      omega
    · rw [if_neg hc] at h; cases h

/-- An element that is refused as no sign. -/
theorem elm_bad {s : ByteArray} {q p : Nat} (h : elm s q = .error (p, 130)) : p = q ∧ byt s q ≠ 63 ∧ byt s q ≠ 91 ∧ byt s q ≠ 92 ∧ sgn (byt s q) = false := by
  unfold elm at h
  split at h
  · cases h
  rename_i h1
  split at h
  · exact absurd rfl (clr_code h)
  rename_i h2
  split at h
  · split at h
    · rename_i e e1
      simp only [Except.error.injEq] at h
      subst h
      exact absurd (esp_code e1) (by omega)
    · cases h
  rename_i h3
  split at h
  · rename_i h4
    simp only [Except.error.injEq, Prod.mk.injEq] at h
    exact ⟨h.1.symm, h1, h2, h3, h4⟩
  · cases h

theorem ptl_bad {s u : ByteArray} {m : Nat} (h : Agr s u m) : ∀ (fuel fuel' q : Nat) (out : List (Nat → Bool)) (p : Nat), ptl s fuel q out = .error (p, 130) → p < m → p - q < fuel' → ptl u fuel' q out = .error (p, 130) ∧ q ≤ p
  | 0, _, _, _, _, he, _, _ => by rw [ptl] at he; simp only [Except.error.injEq, Prod.mk.injEq] at he; omega
  | fuel + 1, fuel', q, out, p, he, hn, hf => by
    have hl := h.l
    have hr := h.r
    obtain ⟨f', rfl⟩ : ∃ f', fuel' = f' + 1 := ⟨fuel' - 1, by omega⟩
    rw [ptl] at he
    split at he
    · simp only [Except.error.injEq, Prod.mk.injEq] at he; omega
    rename_i hq
    split at he
    · split at he
      · simp only [Except.error.injEq, Prod.mk.injEq] at he; omega
      · cases he
    rename_i h34
    split at he
    · simp only [Except.error.injEq, Prod.mk.injEq] at he; omega
    rename_i h64
    split at he
    · rename_i e e1
      simp only [Except.error.injEq] at he
      subst he
      obtain ⟨rfl, b1, b2, b3, b4⟩ := elm_bad e1
      refine ⟨?_, Nat.le_refl _⟩
      rw [ptl, if_neg (by omega), h.e p hn, if_neg h34, if_neg h64]
      unfold elm
      rw [h.e p hn, if_neg b1, if_neg b2, if_neg b3, if_pos b4]
    · rename_i c k e1
      have n1 := elm_next (by omega) e1
      have ih := ptl_bad h fuel (p - k + 1) k _ p he hn (by omega)
      have hkp := ih.2
      refine ⟨?_, by omega⟩
      rw [ptl, if_neg (by omega), h.e q (by omega), if_neg h34, if_neg h64, elm_agr h (by omega) e1 (by omega)]
      exact (ptl_bad h fuel f' k _ p he hn (by omega)).1

theorem nmb_code {s : ByteArray} {q p c : Nat} (h : nmb s q = .error (p, c)) : c = 134 := by
  unfold nmb at h
  split at h
  · simp only [Except.error.injEq, Prod.mk.injEq] at h; omega
  · cases h

theorem tok1_bad {s u : ByteArray} {m q p : Nat} (h : Agr s u m) (he : tok1 s q = .error (p, 130)) (hn : p < m) : tok1 u q = .error (p, 130) ∧ q ≤ p := by
  have hl := h.l
  have hr := h.r
  unfold tok1 at he
  split at he
  · rename_i h1
    split at he
    · rename_i e e1
      simp only [Except.error.injEq] at he
      subst he
      obtain ⟨g1, g2⟩ := ptl_bad h _ (u.size + 1) _ _ _ e1 hn (by omega)
      refine ⟨?_, by omega⟩
      unfold tok1
      rw [h.e q (by omega), if_pos h1, g1]
    · cases he
  rename_i h1
  split at he
  · rename_i h2
    simp only [Except.error.injEq, Prod.mk.injEq] at he
    obtain ⟨rfl, _⟩ := he
    refine ⟨?_, Nat.le_refl _⟩
    unfold tok1
    rw [h.e q hn, if_neg h1, if_pos h2]
  split at he
  · cases he
  · split at he
    · rename_i e e1
      simp only [Except.error.injEq] at he
      subst he
      exact absurd (nmb_code e1) (by omega)
    · cases he

/-- A text that is refused as having no sign there is refused there whatever follows. -/
theorem lxl_bad {s u : ByteArray} {m : Nat} (h : Agr s u m) : ∀ (fuel fuel' q : Nat) (out : List Tk) (p : Nat), lxl s fuel q out = .error (p, 130) → p < m → p - q < fuel' → lxl u fuel' q out = .error (p, 130) ∧ q ≤ p
  | 0, _, _, _, _, he, _, _ => by rw [lxl] at he; simp only [Except.error.injEq, Prod.mk.injEq] at he; omega
  | fuel + 1, fuel', q, out, p, he, hn, hf => by
    have hl := h.l
    have hr := h.r
    obtain ⟨f', rfl⟩ : ∃ f', fuel' = f' + 1 := ⟨fuel' - 1, by omega⟩
    rw [lxl] at he
    split at he
    · cases he
    rename_i hq
    split at he
    · rename_i h32
      have ih := lxl_bad h fuel (p - (q + 1) + 1) (q + 1) out p he hn (by omega)
      refine ⟨?_, by omega⟩
      rw [lxl, if_neg (by omega), h.e q (by omega), if_pos h32]
      exact (lxl_bad h fuel f' (q + 1) out p he hn (by omega)).1
    rename_i h32
    split at he
    · rename_i e e1
      simp only [Except.error.injEq] at he
      subst he
      obtain ⟨g1, g2⟩ := tok1_bad h e1 hn
      refine ⟨?_, g2⟩
      rw [lxl, if_neg (by omega), h.e q (by omega), if_neg h32, g1]
    · rename_i t k e1
      have n1 := tok1_next (by omega) e1
      have ih := lxl_bad h fuel (p - k + 1) k _ p he hn (by omega)
      refine ⟨?_, by omega⟩
      rw [lxl, if_neg (by omega), h.e q (by omega), if_neg h32, tok1_agr h (by omega) e1 (by omega)]
      exact (lxl_bad h fuel f' k _ p he hn (by omega)).1

theorem lex_head {s u : ByteArray} {p : Nat} (he : lex1 s = .error (p, 130)) (hu : u.size ≤ 1000) (h : Agr s u (p + 1)) : lex1 u = .error (p, 130) := by
  have hr := h.r
  unfold lex1 at he ⊢
  rw [if_neg (by omega)]
  split at he
  · simp only [Except.error.injEq, Prod.mk.injEq] at he; omega
  · exact (lxl_bad h _ (u.size + 1) 0 [] p he (by omega) (by omega)).1

end Cls
end Go.Proofs.YtbnnobeahliffaaGreatDoor
