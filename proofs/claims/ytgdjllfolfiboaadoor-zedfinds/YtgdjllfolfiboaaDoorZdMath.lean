/- How far a text goes on like itself, its periods, where it stands in another one: plain. -/
import Derived.Test.YtgdjllfolfiboaaDoorNvA
namespace Go.Proofs.YtgdjllfolfiboaaDoor
open Go.RowKit
namespace Cls

/-- n bytes from i on are those from 0 on, and no more. -/
structure Zv (s : ByteArray) (i n : Nat) : Prop where
  le : i + n ≤ s.size
  same : ∀ k, k < n → byt s k = byt s (i + k)
  stop : i + n = s.size ∨ byt s n ≠ byt s (i + n)

theorem Zv.one {s : ByteArray} {i n m : Nat} (h : Zv s i n) (k : Zv s i m) : n = m := by
  rcases Nat.lt_trichotomy n m with hl | hl | hl
  · exfalso
    rcases h.stop with e | e
    · have := k.le; omega
    · exact e (k.same n hl)
  · exact hl
  · exfalso
    rcases k.stop with e | e
    · have := h.le; omega
    · exact e (h.same m hl)

/-- As many as agree, from n on, within fuel. -/
def zf (s : ByteArray) (i n : Nat) : Nat → Nat
  | 0 => n
  | f + 1 => if i + n < s.size ∧ byt s n = byt s (i + n) then zf s i (n + 1) f else n

def zr (s : ByteArray) (i : Nat) : Nat := zf s i 0 s.size

theorem zf_spec (s : ByteArray) (i : Nat) : ∀ f n, i + n ≤ s.size → (∀ k, k < n → byt s k = byt s (i + k)) → s.size ≤ n + f → Zv s i (zf s i n f)
  | 0, n, hl, hs, hf => by
    unfold zf
    exact ⟨hl, hs, Or.inl (by omega)⟩
  | f + 1, n, hl, hs, hf => by
    unfold zf
    split
    · rename_i h
      refine zf_spec s i f (n + 1) (by omega) (fun k hk => ?_) (by omega)
      by_cases e : k = n
      · subst e; exact h.2
      · exact hs k (by omega)
    · rename_i h
      refine ⟨hl, hs, ?_⟩
      by_cases e : i + n < s.size
      · exact Or.inr (fun h' => h ⟨e, h'⟩)
      · exact Or.inl (by omega)

theorem zr_spec (s : ByteArray) (i : Nat) (h : i ≤ s.size) : Zv s i (zr s i) := zf_spec s i s.size 0 (by omega) (fun k hk => by omega) (by omega)

theorem Zv.eq {s : ByteArray} {i n : Nat} (h : Zv s i n) : n = zr s i := h.one (zr_spec s i (by have := h.le; omega))

theorem zr_zero (s : ByteArray) : zr s 0 = s.size := (Zv.eq ⟨by omega, fun k _ => by rw [Nat.zero_add], Or.inl (by omega)⟩).symm

theorem zr_le (s : ByteArray) (i : Nat) (h : i ≤ s.size) : i + zr s i ≤ s.size := (zr_spec s i h).le

/-- In the window from l to r that was seen: what was told there is told again. -/
theorem zv_copy {s : ByteArray} {l n i : Nat} (h : Zv s l n) (h1 : l ≤ i) (h2 : i < l + n) (h3 : i + zr s (i - l) < l + n) : zr s i = zr s (i - l) := by
  have hl := h.le
  have hz := zr_spec s (i - l) (by omega)
  have e : ∀ t, t < l + n → l ≤ t → byt s t = byt s (t - l) := fun t ht hlt => by
    have := h.same (t - l) (by omega)
    rw [show l + (t - l) = t by omega] at this
    exact this.symm
  refine (Zv.eq ⟨by omega, fun k hk => ?_, Or.inr ?_⟩).symm
  · rw [e (i + k) (by omega) (by omega), show i + k - l = i - l + k by omega]
    exact hz.same k hk
  · rw [e (i + zr s (i - l)) (by omega) (by omega), show i + zr s (i - l) - l = i - l + zr s (i - l) by omega]
    rcases hz.stop with h4 | h4
    · omega
    · exact h4

theorem zv_seen {s : ByteArray} {l n i : Nat} (h : Zv s l n) (h1 : l ≤ i) (h2 : i < l + n) (h3 : l + n ≤ i + zr s (i - l)) : ∀ k, k < l + n - i → byt s k = byt s (i + k) := by
  have hl := h.le
  have hz := zr_spec s (i - l) (by omega)
  intro k hk
  have e := h.same (i + k - l) (by omega)
  rw [show l + (i + k - l) = i + k by omega] at e
  rw [← e, show i + k - l = i - l + k by omega]
  exact hz.same k (by omega)

/-- Each byte that has one p places behind is that one. -/
def per (s : ByteArray) (p : Nat) : Prop := ∀ i, i + p < s.size → byt s i = byt s (i + p)

theorem per_zr {s : ByteArray} {p : Nat} (hp : p ≤ s.size) : per s p ↔ p + zr s p = s.size := by
  have hz := zr_spec s p hp
  constructor
  · intro h
    rcases hz.stop with e | e
    · exact e
    · by_cases hl : p + zr s p < s.size
      · exact absurd (by rw [Nat.add_comm p]; exact h (zr s p) (by omega)) e
      · have := hz.le; omega
  · intro h i hi
    rw [Nat.add_comm i p]
    exact hz.same i (by omega)

theorem per_size (s : ByteArray) : per s s.size := fun i hi => by omega

/-- The least period. -/
structure Per (s : ByteArray) (p : Nat) : Prop where
  pos : 1 ≤ p
  le : p ≤ s.size
  is : per s p
  least : ∀ q, 1 ≤ q → q < p → ¬ per s q

theorem Per.one {s : ByteArray} {p q : Nat} (h : Per s p) (k : Per s q) : p = q := by
  rcases Nat.lt_trichotomy p q with hl | hl | hl
  · exact absurd h.is (k.least p h.pos hl)
  · exact hl
  · exact absurd k.is (h.least q k.pos hl)

theorem Per.le_of {s : ByteArray} {p q : Nat} (h : Per s p) (hq : 1 ≤ q) (k : per s q) : p ≤ q := by
  rcases Nat.lt_or_ge q p with hl | hl
  · exact absurd k (h.least q hq hl)
  · exact hl

/-- A period parts each other one that is not too long. -/
theorem Per.parts {s : ByteArray} {p : Nat} (h : Per s p) : ∀ g, 1 ≤ g → p + g ≤ s.size → per s g → p ∣ g := by
  intro g
  induction g using Nat.strongRecOn with
  | ind g ih =>
    intro hg hl hp
    have hle := h.le_of hg hp
    have hpos := h.pos
    rcases Nat.eq_or_lt_of_le hle with e | e
    · rw [e]; exact Nat.dvd_refl _
    · have hd : per s (g - p) := by
        intro i hi
        by_cases hip : p ≤ i
        · have h1 := h.is (i - p) (by omega)
          rw [show i - p + p = i by omega] at h1
          have h2 := hp (i - p) (by omega)
          rw [show i - p + g = i + (g - p) by omega] at h2
          rw [← h1, h2]
        · have h1 := hp i (by omega)
          have h2 := h.is (i + (g - p)) (by omega)
          rw [show i + (g - p) + p = i + g by omega] at h2
          rw [h1, h2]
      have hge : p ≤ g - p := h.le_of (by omega) hd
      have := ih (g - p) (by omega) (by omega) (by omega) hd
      rw [show g = (g - p) + p by omega]
      exact Nat.dvd_add this (Nat.dvd_refl _)

/-- By a period all bytes are told. -/
theorem per_mod {s : ByteArray} {p : Nat} (h : per s p) (hp : 1 ≤ p) : ∀ t, t < s.size → byt s t = byt s (t % p) := by
  intro t
  induction t using Nat.strongRecOn with
  | ind t ih =>
    intro ht
    by_cases e : t < p
    · rw [Nat.mod_eq_of_lt e]
    · have h1 := h (t - p) (by omega)
      rw [show t - p + p = t by omega] at h1
      rw [← h1, ih (t - p) (by omega) (by omega)]
      congr 1
      rw [Nat.mod_eq_sub_mod (by omega : t ≥ p)]

/-- s stands at place i of t. -/
def std (p t : ByteArray) (i : Nat) : Prop := i + p.size ≤ t.size ∧ ∀ k, k < p.size → byt p k = byt t (i + k)

theorem byt_twice (s : ByteArray) (t : Nat) (h : t < s.size + s.size) : byt (s ++ s) t = if t < s.size then byt s t else byt s (t - s.size) := by
  split
  · rename_i h1; exact byt_more s s t h1
  · rename_i h1
    have h2 : t < (s ++ s).size := by rw [ByteArray.size_append]; omega
    rw [byt_at (s ++ s) t h2, byt_at s (t - s.size) (by omega), ByteArray.getElem_append_right (by omega)]

/-- Where a text stands in itself, written twice. -/
theorem twice_std {s : ByteArray} {p : Nat} (h : Per s p) {i : Nat} (hi : i ≤ s.size) : std s (s ++ s) i ↔ (i = 0 ∨ i = s.size ∨ (p ∣ s.size ∧ p ∣ i)) := by
  have hpos := h.pos
  have hple := h.le
  constructor
  · rintro ⟨_, hs⟩
    by_cases h0 : i = 0
    · exact Or.inl h0
    · by_cases h1 : i = s.size
      · exact Or.inr (Or.inl h1)
      · refine Or.inr (Or.inr ?_)
        have pa : per s i := fun k hk => by
          have := hs k (by omega)
          rw [byt_twice s _ (by omega), if_pos (by omega), Nat.add_comm i k] at this
          exact this
        have pb : per s (s.size - i) := fun k hk => by
          have := hs (k + (s.size - i)) (by omega)
          rw [byt_twice s _ (by omega), if_neg (by omega), show i + (k + (s.size - i)) - s.size = k by omega] at this
          exact this.symm
        have la := h.le_of (by omega) pa
        have lb := h.le_of (by omega) pb
        have da : p ∣ i := h.parts i (by omega) (by omega) pa
        have db : p ∣ s.size - i := h.parts (s.size - i) (by omega) (by omega) pb
        refine ⟨?_, da⟩
        rw [show s.size = i + (s.size - i) by omega]
        exact Nat.dvd_add da db
  · rintro (rfl | rfl | ⟨hn, hd⟩)
    · exact ⟨by rw [ByteArray.size_append]; omega, fun k hk => by rw [byt_twice s _ (by omega), if_pos (by omega), Nat.zero_add]⟩
    · exact ⟨by rw [ByteArray.size_append]; omega, fun k hk => by rw [byt_twice s _ (by omega), if_neg (by omega), Nat.add_sub_cancel_left]⟩
    · refine ⟨by rw [ByteArray.size_append]; omega, fun k hk => ?_⟩
      rw [byt_twice s _ (by omega), per_mod h.is hpos k hk]
      obtain ⟨c, hc⟩ := hd
      obtain ⟨d, hd⟩ := hn
      split
      · rename_i hl
        rw [per_mod h.is hpos (i + k) hl, hc, Nat.mul_add_mod]
      · rename_i hl
        rw [per_mod h.is hpos (i + k - s.size) (by omega)]
        congr 1
        have : (i + k - s.size) + p * d = p * c + k := by omega
        have h2 := congrArg (· % p) this
        simp only [Nat.add_mul_mod_self_left, Nat.mul_add_mod] at h2
        exact h2.symm

/-- Two rising rows of the same numbers are the same. -/
theorem rise_ext : ∀ {L M : List Nat}, L.Pairwise (· < ·) → M.Pairwise (· < ·) → (∀ x, x ∈ L ↔ x ∈ M) → L = M
  | [], [], _, _, _ => rfl
  | [], y :: M, _, _, h => absurd ((h y).2 (by simp)) (by simp)
  | x :: L, [], _, _, h => absurd ((h x).1 (by simp)) (by simp)
  | x :: L, y :: M, hL, hM, h => by
    rw [List.pairwise_cons] at hL hM
    have hxy : x = y := by
      have h1 := (h x).1 (by simp)
      have h2 := (h y).2 (by simp)
      rw [List.mem_cons] at h1 h2
      rcases h1 with e | h1
      · exact e
      · rcases h2 with e | h2
        · exact e.symm
        · have := hM.1 x h1
          have := hL.1 y h2
          omega
    subst hxy
    congr 1
    refine rise_ext hL.2 hM.2 (fun z => ⟨fun hz => ?_, fun hz => ?_⟩)
    · have := (h z).1 (by simp [hz])
      rw [List.mem_cons] at this
      rcases this with e | h1
      · have := hL.1 z hz; omega
      · exact h1
    · have := (h z).2 (by simp [hz])
      rw [List.mem_cons] at this
      rcases this with e | h1
      · have := hM.1 z hz; omega
      · exact h1

/-- The places that are told. -/
def fds (p t : ByteArray) (n : Nat) : List Nat := (List.range n).filter fun i => decide (i + p.size ≤ t.size) && (List.range p.size).all fun k => byt p k == byt t (i + k)

theorem fds_mem {p t : ByteArray} {n i : Nat} : i ∈ fds p t n ↔ i < n ∧ std p t i := by
  unfold fds std
  simp only [List.mem_filter, List.mem_range, Bool.and_eq_true, decide_eq_true_eq, List.all_eq_true, beq_iff_eq]

theorem fds_sorted (p t : ByteArray) (n : Nat) : (fds p t n).Pairwise (· < ·) := List.Pairwise.filter _ List.pairwise_lt_range

theorem fds_succ (p t : ByteArray) (n : Nat) (b : Bool) (h : b = true ↔ std p t n) : fds p t (n + 1) = if b = true then fds p t n ++ [n] else fds p t n := by
  unfold fds
  rw [List.range_succ, List.filter_append]
  have he : (decide (n + p.size ≤ t.size) && (List.range p.size).all fun k => byt p k == byt t (n + k)) = b := by
    rw [Bool.eq_iff_iff, h]
    unfold std
    simp only [Bool.and_eq_true, decide_eq_true_eq, List.all_eq_true, List.mem_range, beq_iff_eq]
  cases b with
  | true => simp [he]
  | false => simp [he]

/-- Those of a text in itself, written twice. -/
theorem twice_fds {s : ByteArray} {p st : Nat} (h : Per s p) (hst : st = if p ∣ s.size then p else s.size) : fds s (s ++ s) (s.size + 1) = (List.range (s.size / st + 1)).map (· * st) := by
  have hpos := h.pos
  have hple := h.le
  have hsp : 1 ≤ st ∧ st ∣ s.size := by
    subst hst
    split
    · rename_i hd; exact ⟨hpos, hd⟩
    · exact ⟨by omega, Nat.dvd_refl _⟩
  refine rise_ext (fds_sorted _ _ _) ?_ (fun x => ?_)
  · rw [List.pairwise_map]
    exact List.Pairwise.imp (fun {a b} hab => Nat.mul_lt_mul_of_pos_right hab hsp.1) List.pairwise_lt_range
  · rw [fds_mem, List.mem_map]
    constructor
    · rintro ⟨hx, hs⟩
      rw [twice_std h (by omega)] at hs
      have hd : st ∣ x := by
        rcases hs with rfl | rfl | ⟨h1, h2⟩
        · exact Nat.dvd_zero _
        · exact hsp.2
        · rw [hst, if_pos h1]; exact h2
      obtain ⟨c, hc⟩ := hd
      refine ⟨c, ?_, by rw [hc, Nat.mul_comm]⟩
      rw [List.mem_range]
      have : c ≤ s.size / st := by
        rw [Nat.le_div_iff_mul_le hsp.1, Nat.mul_comm, ← hc]
        omega
      omega
    · rintro ⟨c, hc, rfl⟩
      rw [List.mem_range] at hc
      have hle : c * st ≤ s.size := by
        have : c ≤ s.size / st := by omega
        rwa [Nat.le_div_iff_mul_le hsp.1] at this
      refine ⟨by omega, ?_⟩
      rw [twice_std h hle]
      by_cases hd : p ∣ s.size
      · rw [hst, if_pos hd]
        exact Or.inr (Or.inr ⟨hd, Nat.dvd_mul_left _ _⟩)
      · rw [if_neg hd] at hst
        subst hst
        have h1 : s.size / s.size = 1 := Nat.div_self (by omega)
        rw [h1] at hc
        match c, hc with
        | 0, _ => exact Or.inl (by omega)
        | 1, _ => exact Or.inr (Or.inl (by omega))

end Cls
end Go.Proofs.YtgdjllfolfiboaaDoor
