/- crt.Rows and the document's own Rows of any three rows, as many or not, in one word each; what Same says of the two. -/
import Derived.Test.YtlkooihjcdgcjaaDoorCrtRowRef
import Derived.Test.YtlkooihjcdgcjaaDoorSameC
namespace Go.Proofs.YtlkooihjcdgcjaaDoor
open Go.RowKit Res

/-- Are there numbers of these rows? -/
def Ok (n m l : Nat) (N : Nat → Int) : Prop := m = n ∧ l = n ∧ ∀ t, t < n → N t ≤ 18446744073709551615
theorem ok_bool (n m l : Nat) (N : Nat → Int) : ∃ p : Bool, (p = true ↔ Ok n m l N) := by
  by_cases h : Ok n m l N
  · exact ⟨true, fun _ => h, fun _ => rfl⟩
  · exact ⟨false, fun e => (by cases e), fun h' => absurd h' h⟩
theorem rows_gen (ao bo co : Option Addr) (n m l ca cb cc : Nat) (hn : n ≤ 8192) (A B C : Nat → Int) (hA : ∀ t, 0 ≤ A t) (hB : ∀ t, 0 ≤ B t) (hC : ∀ t, 0 ≤ C t) (w : World) (hT : Tab w) (la : Lies w ao n A) (lb : Lies w bo m B) (lc : Lies w co l C) (p : Bool) (hp : p = true ↔ Ok n m l (fun t => nm (A t) (B t) (C t))) :
    Calls Tryd.prog 20 #[.slice ao n ca, .slice bo m cb, .slice co l cc] w fun e w' => (∃ vx, e = .returned (.tuple #[vx, .bool p]) ∧ (p = true → ∃ g, vx = .slice (some ⟨g, 0, none⟩) n n ∧ w.heap.size ≤ g ∧ g < w'.heap.size ∧ Fam w' g 0 n (fun t => nm (A t) (B t) (C t))) ∧ (p = false → vx = .slice none 0 0)) ∧ Below w.heap.size w w' := by
  by_cases hm : m = n
  · by_cases hl : l = n
    · subst hm hl
      refine (rows_any ao bo co l ca cb cc hn A B C hA hB hC w hT la lb lc).mono ?_
      rintro e w' ⟨hR, hb⟩
      refine ⟨?_, hb⟩
      rcases hR with ⟨hall, g, rfl, h1, h2, h3⟩ | ⟨⟨t, ht, hbig⟩, rfl⟩
      · obtain rfl : p = true := hp.2 ⟨rfl, rfl, hall⟩
        exact ⟨_, rfl, fun _ => ⟨g, rfl, h1, h2, h3⟩, fun h => by cases h⟩
      · obtain rfl : p = false := by
          cases p with
          | false => rfl
          | true => have := (hp.1 rfl).2.2 t ht; omega
        exact ⟨_, rfl, fun h => (by cases h), fun _ => rfl⟩
    · subst hm
      obtain rfl : p = false := by
        cases p with
        | false => rfl
        | true => exact absurd (hp.1 rfl).2.1 hl
      refine (rows_c ao bo co m l ca cb cc hl w).mono ?_
      rintro e w' ⟨rfl, rfl⟩
      exact ⟨⟨_, rfl, fun h => (by cases h), fun _ => rfl⟩, Below.refl _ _⟩
  · obtain rfl : p = false := by
      cases p with
      | false => rfl
      | true => exact absurd (hp.1 rfl).1 hm
    refine (rows_b ao bo co n m l ca cb cc hm w).mono ?_
    rintro e w' ⟨rfl, rfl⟩
    exact ⟨⟨_, rfl, fun h => (by cases h), fun _ => rfl⟩, Below.refl _ _⟩
theorem refRows_gen (ao bo co : Option Addr) (n m l ca cb cc : Nat) (hn : n ≤ 8192) (A B C : Nat → Int) (hA : ∀ t, 0 ≤ A t) (hB : ∀ t, 0 ≤ B t) (hC : ∀ t, 0 ≤ C t) (w : World) (la : Lies w ao n A) (lb : Lies w bo m B) (lc : Lies w co l C) (p : Bool) (hp : p = true ↔ Ok n m l (fun t => nm (A t) (B t) (C t))) :
    Calls Tryd.prog 21 #[.slice ao n ca, .slice bo m cb, .slice co l cc] w fun e w' => (∃ vy, e = .returned (.tuple #[vy, .bool p]) ∧ (p = true → Own w' w.heap.size vy n (fun t => nm (A t) (B t) (C t))) ∧ (p = false → vy = .slice none 0 0)) ∧ Below w.heap.size w w' := by
  by_cases hm : m = n
  · by_cases hl : l = n
    · subst hm hl
      refine (refRows_any ao bo co l ca cb cc hn A B C hA hB hC w la lb lc).mono ?_
      rintro e w' ⟨hR, hb⟩
      refine ⟨?_, hb⟩
      rcases hR with ⟨hall, v, rfl, h1⟩ | ⟨⟨t, ht, hbig⟩, rfl⟩
      · obtain rfl : p = true := hp.2 ⟨rfl, rfl, hall⟩
        exact ⟨_, rfl, fun _ => h1, fun h => by cases h⟩
      · obtain rfl : p = false := by
          cases p with
          | false => rfl
          | true => have := (hp.1 rfl).2.2 t ht; omega
        exact ⟨_, rfl, fun h => (by cases h), fun _ => rfl⟩
    · subst hm
      obtain rfl : p = false := by
        cases p with
        | false => rfl
        | true => exact absurd (hp.1 rfl).2.1 hl
      refine (refRows_c ao bo co m l ca cb cc hl w).mono ?_
      rintro e w' ⟨rfl, rfl⟩
      exact ⟨⟨_, rfl, fun h => (by cases h), fun _ => rfl⟩, Below.refl _ _⟩
  · obtain rfl : p = false := by
      cases p with
      | false => rfl
      | true => exact absurd (hp.1 rfl).1 hm
    refine (refRows_b ao bo co n m l ca cb cc hm w).mono ?_
    rintro e w' ⟨rfl, rfl⟩
    exact ⟨⟨_, rfl, fun h => (by cases h), fun _ => rfl⟩, Below.refl _ _⟩
/-- The two are the same. -/
theorem same_gen (n : Nat) (hn : n ≤ 8192) (N : Nat → Int) (p : Bool) (w1 w2 : World) (B B' : Nat) (vx vy : Value) (hx : p = true → ∃ g, vx = .slice (some ⟨g, 0, none⟩) n n ∧ B ≤ g ∧ g < w1.heap.size ∧ Fam w1 g 0 n N) (hx0 : p = false → vx = .slice none 0 0) (hb : Below w1.heap.size w1 w2)
    (hy : p = true → Own w2 B' vy n N) (hy0 : p = false → vy = .slice none 0 0) : Calls Tryd.prog 22 #[vx, vy] w2 fun e w' => e = .returned (.bool true) ∧ ∃ q, w' = w2.drewN q := by
  cases p with
  | false => rw [hx0 rfl, hy0 rfl]; exact same_nil none none 0 0 w2
  | true =>
    obtain ⟨g, rfl, _, hlt, hf⟩ := hx rfl
    have ho := hy rfl
    by_cases h0 : 1 ≤ n
    · obtain ⟨g', cap, rfl, _, _, hf', _⟩ := own_fam ho h0
      exact same_fam n (by omega) g 0 n g' 0 cap N N (fun _ _ => rfl) w2 (hf.below hb hlt) hf'
    · obtain rfl : n = 0 := by omega
      obtain ⟨ao, c, rfl⟩ : ∃ ao c, vy = .slice ao 0 c := own_slice ho
      exact same_nil _ _ _ _ w2
end Go.Proofs.YtlkooihjcdgcjaaDoor
