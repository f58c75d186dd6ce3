/- Tokens: what is read can be written; a text that is refused is refused whatever follows: plain. -/
import Derived.Test.YtbnnobeahliffaaGreatDoorTkLex
namespace Go.Proofs.YtbnnobeahliffaaGreatDoor
open Go.RowKit
namespace Cls

theorem cb_rg {a b : Nat} (h : a < 256) (hab : a < b) : cb (rg a b) 0 256 ≠ 0 := by
  rw [Ne, cb_none]
  intro e
  have := e a h
  unfold rg at this
  simp at this
  omega

theorem esp_next {s : ByteArray} {q b n : Nat} (h : esp s q = .ok (b, n)) : q + 1 < n ∧ n ≤ s.size ∧ b < 256 := by
  unfold esp at h
  split at h
  · rename_i hc
    simp only [Except.ok.injEq, Prod.mk.injEq] at h
    obtain ⟨rfl, rfl⟩ := h
    exact ⟨by omega, by omega, byt_lt s _⟩
  · split at h
    · rename_i hc
      simp only [Except.ok.injEq, Prod.mk.injEq] at h
      obtain ⟨rfl, rfl⟩ := h
      have hx : ∀ y, (hexv y).getD 0 < 16 := fun y => by
        unfold hexv
        split
        · simp; omega
        · split
          · simp; omega
          · simp
      have h1 := hx (byt s (q + 2))
      have h2 := hx (byt s (q + 3))
      exact ⟨by omega, by omega, by omega⟩
    · cases h

theorem itm_next {s : ByteArray} {q b n : Nat} (h : itm s q = .ok (b, n)) : q < n ∧ n ≤ s.size ∧ b < 256 := by
  unfold itm at h
  split at h
  · cases h
  split at h
  · obtain ⟨h1, h2, h3⟩ := esp_next h
    exact ⟨by omega, h2, h3⟩
  split at h
  · cases h
  · simp only [Except.ok.injEq, Prod.mk.injEq] at h
    obtain ⟨rfl, rfl⟩ := h
    exact ⟨by omega, by omega, byt_lt s _⟩

theorem cli_next {s : ByteArray} : ∀ (fuel q : Nat) (out : Nat → Bool) (items : Nat) (o : Nat → Bool) (k n : Nat), cli s fuel q out items = .ok ((o, k), n) → q ≤ n ∧ n < s.size ∧ byt s n = 93
  | 0, _, _, _, _, _, _, h => by cases h
  | fuel + 1, q, out, items, o, k, n, h => by
    rw [cli] at h
    split at h
    · rename_i hc
      simp only [Except.ok.injEq, Prod.mk.injEq] at h
      obtain ⟨_, rfl⟩ := h
      exact ⟨Nat.le_refl _, hc.1, hc.2⟩
    · split at h
      · cases h
      · rename_i a at1 e1
        have n1 := itm_next e1
        split at h
        · split at h
          · cases h
          · rename_i b at2 e2
            have n2 := itm_next e2
            split at h
            · cases h
            · obtain ⟨h1, h2⟩ := cli_next fuel at2 _ _ o k n h
              exact ⟨by omega, h2⟩
        · obtain ⟨h1, h2⟩ := cli_next fuel at1 _ _ o k n h
          exact ⟨by omega, h2⟩

theorem clr_next {s : ByteArray} {q n : Nat} {o : Nat → Bool} (h : clr s q = .ok (o, n)) : q < n ∧ n ≤ s.size ∧ cb o 0 256 ≠ 0 := by
  unfold clr at h
  split at h
  · cases h
  · rename_i out items at1 e1
    by_cases hc : items = 0 ∨ cb (if q + 1 < s.size ∧ byt s (q + 1) = 94 then fun x => !out x else out) 0 256 = 0
    · rw [if_pos hc] at h
      cases h
    · rw [if_neg hc] at h
      simp only [Except.ok.injEq, Prod.mk.injEq] at h
      obtain ⟨rfl, rfl⟩ := h
      obtain ⟨h1, h2, _⟩ := cli_next _ _ _ _ _ _ _ e1
      refine ⟨?_, by omega, fun e => hc (.inr e)⟩
      split at h1 <;> omega

theorem elm_next {s : ByteArray} {q n : Nat} {o : Nat → Bool} (hq : q < s.size) (h : elm s q = .ok (o, n)) : q < n ∧ n ≤ s.size ∧ cb o 0 256 ≠ 0 := by
  unfold elm at h
  split at h
  · simp only [Except.ok.injEq, Prod.mk.injEq] at h
    obtain ⟨rfl, rfl⟩ := h
    refine ⟨by omega, by omega, ?_⟩
    rw [Ne, cb_none]
    intro e
    exact absurd (e 0 (by omega)) (by simp)
  split at h
  · exact clr_next h
  split at h
  · split at h
    · cases h
    · rename_i b m e1
      simp only [Except.ok.injEq, Prod.mk.injEq] at h
      obtain ⟨rfl, rfl⟩ := h
      obtain ⟨h1, h2, h3⟩ := esp_next e1
      exact ⟨by omega, h2, cb_rg h3 (by omega)⟩
  split at h
  · cases h
  · simp only [Except.ok.injEq, Prod.mk.injEq] at h
    obtain ⟨rfl, rfl⟩ := h
    exact ⟨by omega, by omega, cb_rg (byt_lt s q) (by omega)⟩

theorem elt_some {f : Nat → Bool} (h : cb f 0 256 ≠ 0) : ∃ T, elt f = some T := by
  unfold elt
  rw [if_neg h]
  split
  · exact ⟨_, rfl⟩
  · split <;> exact ⟨_, rfl⟩

theorem elts_some : ∀ {L : List (Nat → Bool)}, (∀ f ∈ L, cb f 0 256 ≠ 0) → ∃ T, elts L = some T
  | [], _ => ⟨_, rfl⟩
  | f :: L, h => by
    obtain ⟨a, ha⟩ := elt_some (h f (List.mem_cons_self ..))
    obtain ⟨b, hb⟩ := elts_some (L := L) (fun g hg => h g (List.mem_cons_of_mem _ hg))
    exact ⟨a ++ b, by unfold elts; rw [ha, hb]⟩

theorem ptl_next {s : ByteArray} : ∀ (fuel q : Nat) (out P : List (Nat → Bool)) (n : Nat), ptl s fuel q out = .ok (P, n) → (∀ f ∈ out, cb f 0 256 ≠ 0) → out.length ≤ 64 → q < n ∧ n ≤ s.size ∧ (∀ f ∈ P, cb f 0 256 ≠ 0) ∧ 1 ≤ P.length ∧ P.length ≤ 64
  | 0, _, _, _, _, h, _, _ => by cases h
  | fuel + 1, q, out, P, n, h, ho, hl => by
    rw [ptl] at h
    split at h
    · cases h
    split at h
    · split at h
      · cases h
      · simp only [Except.ok.injEq, Prod.mk.injEq] at h
        obtain ⟨rfl, rfl⟩ := h
        exact ⟨by omega, by omega, ho, by omega, hl⟩
    split at h
    · cases h
    · split at h
      · cases h
      · rename_i c m e1
        obtain ⟨h1, h2, h3⟩ := elm_next (by omega) e1
        obtain ⟨g1, g2⟩ := ptl_next fuel m (out ++ [c]) P n h (fun f hf => by
          rcases List.mem_append.1 hf with hf | hf
          · exact ho f hf
          · rw [List.mem_singleton] at hf; rw [hf]; exact h3) (by simp; omega)
        exact ⟨by omega, g2⟩

theorem nml_next {s : ByteArray} : ∀ (fuel q m : Nat), q ≤ (nml s fuel q m).1 ∧ ((nml s fuel q m).1 ≤ s.size ∨ (nml s fuel q m).1 = q)
  | 0, q, m => ⟨Nat.le_refl _, .inr rfl⟩
  | fuel + 1, q, m => by
    rw [nml]
    split
    · rename_i h
      obtain ⟨h1, h2⟩ := nml_next (s := s) fuel (q + 1) (if m ≤ 1000000 then 10 * m + (byt s q - 48) else m)
      exact ⟨by omega, .inl (by omega)⟩
    · exact ⟨Nat.le_refl _, .inr rfl⟩

theorem nmb_next {s : ByteArray} {q m n : Nat} (h : nmb s q = .ok (m, n)) : q < n ∧ n ≤ s.size ∧ m ≤ 1000000 := by
  unfold nmb at h
  split at h
  · cases h
  · rename_i hc
    simp only [Except.ok.injEq, Prod.mk.injEq] at h
    obtain ⟨rfl, rfl⟩ := h
    have := nml_next (s := s) (s.size + 1) q 0
    refine ⟨?_, ?_, ?_⟩
    · have : ¬ (nml s (s.size + 1) q 0).1 = q := fun e => hc (.inl e)
      omega
    · have : ¬ (nml s (s.size + 1) q 0).1 = q := fun e => hc (.inl e)
      omega
    · have : ¬ 1000000 < (nml s (s.size + 1) q 0).2 := fun e => hc (.inr (.inr e))
      omega

/-- A token that is read has a text. -/
theorem tok1_next {s : ByteArray} {q n : Nat} {t : Tk} (hq : q < s.size) (h : tok1 s q = .ok (t, n)) : q < n ∧ n ≤ s.size ∧ t.at' = q ∧ ∃ T, prt t = some T := by
  unfold tok1 at h
  split at h
  · split at h
    · cases h
    · rename_i P m e1
      simp only [Except.ok.injEq, Prod.mk.injEq] at h
      obtain ⟨rfl, rfl⟩ := h
      obtain ⟨h1, h2, h3, h4, h5⟩ := ptl_next _ _ _ _ _ e1 (by simp) (by simp)
      obtain ⟨E, hE⟩ := elts_some h3
      refine ⟨by omega, h2, rfl, 34 :: (E ++ [34]), ?_⟩
      unfold prt
      rw [if_neg (by simp), if_pos rfl, if_neg (fun e => by rcases e with e | e | e; exact e rfl; (have : P.length < 1 := e; omega); (have : 64 < P.length := e; omega)), hE]
  split at h
  · cases h
  rename_i hk0
  have hk7 : knd (byt s q) ≤ 7 := by
    unfold knd
    repeat' split
    all_goals omega
  split at h
  · rename_i hk
    simp only [Except.ok.injEq, Prod.mk.injEq] at h
    obtain ⟨rfl, rfl⟩ := h
    refine ⟨by omega, by omega, rfl, [signs.getD (knd (byt s q) - 1) 0], ?_⟩
    unfold prt
    rw [if_neg (by simp; omega), if_neg (by simp; omega), if_neg (by simp), if_neg (by simp; omega), if_neg (by simp)]
  · rename_i hk
    split at h
    · cases h
    · rename_i m m' e1
      simp only [Except.ok.injEq, Prod.mk.injEq] at h
      obtain ⟨rfl, rfl⟩ := h
      obtain ⟨h1, h2, h3⟩ := nmb_next e1
      refine ⟨by omega, h2, rfl, signs.getD (knd (byt s q) - 1) 0 :: dgs m, ?_⟩
      unfold prt
      rw [if_neg (by simp; omega), if_neg (by simp; omega), if_neg (by simp), if_pos (by simp; omega)]

theorem lxl_next {s : ByteArray} : ∀ (fuel q : Nat) (out L : List Tk), lxl s fuel q out = .ok L → (∀ t ∈ out, ∃ T, prt t = some T) → ∀ t ∈ L, ∃ T, prt t = some T
  | 0, _, _, _, h, _ => by cases h
  | fuel + 1, q, out, L, h, ho => by
    rw [lxl] at h
    split at h
    · simp only [Except.ok.injEq] at h
      subst h
      exact ho
    split at h
    · exact lxl_next fuel _ _ L h ho
    · split at h
      · cases h
      · rename_i t n e1
        have h1 := tok1_next (by omega) e1
        exact lxl_next fuel n _ L h (fun u hu => by
          rcases List.mem_append.1 hu with hu | hu
          · exact ho u hu
          · rw [List.mem_singleton] at hu; rw [hu]; exact h1.2.2.2)

end Cls
end Go.Proofs.YtbnnobeahliffaaGreatDoor
