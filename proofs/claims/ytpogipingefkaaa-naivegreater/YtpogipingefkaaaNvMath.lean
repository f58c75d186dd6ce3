/- Counts of what a leaf misses, their places: plain. -/
import Derived.Test.YtpogipingefkaaaLfA
namespace Go.Proofs.Ytpogipingefkaaa
open Go.RowKit
namespace Cls

/-- Byte t of a text. -/
def byt (s : ByteArray) (t : Nat) : Nat := if h : t < s.size then (s[t]'h).toNat else 0

theorem byt_at (s : ByteArray) (t : Nat) (h : t < s.size) : byt s t = (s[t]'h).toNat := by unfold byt; rw [dif_pos h]

theorem byt_lt (s : ByteArray) (t : Nat) : byt s t < 256 := by
  unfold byt
  split
  · exact UInt8.toNat_lt _
  · omega

/-- How many of the first m elements are missed at place i. -/
def mis (P : Nat → Nat → Bool) (s : ByteArray) (i : Nat) : Nat → Nat
  | 0 => 0
  | m + 1 => mis P s i m + (!P m (byt s (i + m))).toNat
  termination_by m => m

theorem mis_zero (P : Nat → Nat → Bool) (s : ByteArray) (i : Nat) : mis P s i 0 = 0 := by rw [mis]

theorem mis_succ (P : Nat → Nat → Bool) (s : ByteArray) (i m : Nat) : mis P s i (m + 1) = mis P s i m + (!P m (byt s (i + m))).toNat := by rw [mis]

theorem mis_le (P : Nat → Nat → Bool) (s : ByteArray) (i m : Nat) : mis P s i m ≤ m := by
  induction m with
  | zero => rw [mis_zero]; omega
  | succ m ih => rw [mis_succ]; have := Bool.toNat_le (!P m (byt s (i + m))); omega

/-- One row of elements behind another one. -/
def bhd (P : Nat → Nat → Bool) (m : Nat) (Q : Nat → Nat → Bool) : Nat → Nat → Bool := fun t => if t < m then P t else Q (t - m)

theorem mis_congr {P Q : Nat → Nat → Bool} {s u : ByteArray} {i j : Nat} : ∀ m, (∀ t, t < m → P t (byt s (i + t)) = Q t (byt u (j + t))) → mis P s i m = mis Q u j m
  | 0, _ => by rw [mis_zero, mis_zero]
  | m + 1, h => by rw [mis_succ, mis_succ, mis_congr m (fun t ht => h t (by omega)), h m (by omega)]

/-- What both miss. -/
theorem mis_two (P Q : Nat → Nat → Bool) (s : ByteArray) (i m : Nat) : ∀ k, mis (bhd P m Q) s i (m + k) = mis P s i m + mis Q s (i + m) k
  | 0 => by
    rw [Nat.add_zero, mis_zero, Nat.add_zero]
    exact mis_congr m (fun t ht => by unfold bhd; rw [if_pos ht])
  | k + 1 => by
    rw [← Nat.add_assoc, mis_succ, mis_two P Q s i m k, mis_succ, Nat.add_assoc, ← Nat.add_assoc i m k]
    congr 3
    unfold bhd
    rw [if_neg (by omega), show m + k - m = k by omega]

theorem mis_full (P : Nat → Nat → Bool) (s : ByteArray) (i : Nat) : ∀ m, (∀ t, t < m → fr (P t) = true) → mis P s i m = 0
  | 0, _ => mis_zero _ _ _
  | m + 1, h => by
    rw [mis_succ, mis_full P s i m (fun t ht => h t (by omega)), (fr_iff (P m)).1 (h m (by omega)) _ (byt_lt s _)]
    rfl

/-- At how many places a leaf stands. -/
def stn (P : Nat → Nat → Bool) (m : Nat) (K : Int) (n : Nat) : Nat := if rgt P m K = true ∧ m ≤ n then n - m + 1 else 0

theorem stn_yes {P : Nat → Nat → Bool} {m n : Nat} {K : Int} (h : rgt P m K = true) (hm : m ≤ n) : stn P m K n = n - m + 1 := if_pos ⟨h, hm⟩

theorem stn_no {P : Nat → Nat → Bool} {m n : Nat} {K : Int} (h : ¬ (rgt P m K = true ∧ m ≤ n)) : stn P m K n = 0 := if_neg h

theorem stn_lt {P : Nat → Nat → Bool} {m n i : Nat} {K : Int} : i < stn P m K n ↔ rgt P m K = true ∧ i + m ≤ n := by
  unfold stn
  split
  · rename_i h; exact ⟨fun hi => ⟨h.1, by omega⟩, fun hi => by omega⟩
  · rename_i h; exact ⟨fun hi => by omega, fun hi => absurd ⟨hi.1, by omega⟩ h⟩

theorem stn_le (P : Nat → Nat → Bool) (m n : Nat) (K : Int) : stn P m K n ≤ n + 1 := by unfold stn; split <;> omega

/-- Its counts. -/
def cts (P : Nat → Nat → Bool) (m : Nat) (K : Int) (s : ByteArray) : List Nat := (List.range (stn P m K s.size)).map fun i => mis P s i m

theorem cts_len (P : Nat → Nat → Bool) (m : Nat) (K : Int) (s : ByteArray) : (cts P m K s).length = stn P m K s.size := by simp [cts]

theorem cts_at (P : Nat → Nat → Bool) (m : Nat) (K : Int) (s : ByteArray) (i : Nat) (h : i < (cts P m K s).length) : (cts P m K s)[i] = mis P s i m := by simp [cts]

/-- The first i of the places that are gone through, where it stands. -/
def ctk (P : Nat → Nat → Bool) (m : Nat) (K : Int) (s : ByteArray) (i : Nat) : List Nat := (List.range (min i (stn P m K s.size))).map fun i => mis P s i m

theorem ctk_zero (P : Nat → Nat → Bool) (m : Nat) (K : Int) (s : ByteArray) : ctk P m K s 0 = [] := by simp [ctk]

theorem ctk_yes {P : Nat → Nat → Bool} {m : Nat} {K : Int} {s : ByteArray} {i : Nat} (h : i < stn P m K s.size) : ctk P m K s (i + 1) = ctk P m K s i ++ [mis P s i m] := by
  unfold ctk
  rw [Nat.min_eq_left (by omega), Nat.min_eq_left (by omega), List.range_succ, List.map_append]
  rfl

theorem ctk_no {P : Nat → Nat → Bool} {m : Nat} {K : Int} {s : ByteArray} {i : Nat} (h : ¬ i < stn P m K s.size) : ctk P m K s (i + 1) = ctk P m K s i := by
  unfold ctk
  rw [Nat.min_eq_right (by omega), Nat.min_eq_right (by omega)]

theorem ctk_end {P : Nat → Nat → Bool} {m : Nat} {K : Int} {s : ByteArray} {i : Nat} (h : stn P m K s.size ≤ i) : ctk P m K s i = cts P m K s := by
  unfold ctk cts
  rw [Nat.min_eq_right h]

theorem ctk_len (P : Nat → Nat → Bool) (m : Nat) (K : Int) (s : ByteArray) (i : Nat) : (ctk P m K s i).length ≤ i := by simp [ctk]; omega

/-- The places among the first n of numbers that are k at most. -/
def hts (C : Nat → Int) (k : Int) (n : Nat) : List Nat := (List.range n).filter fun i => decide (C i ≤ k)

theorem hts_zero (C : Nat → Int) (k : Int) : hts C k 0 = [] := rfl

theorem hts_yes {C : Nat → Int} {k : Int} {n : Nat} (h : C n ≤ k) : hts C k (n + 1) = hts C k n ++ [n] := by
  unfold hts
  rw [List.range_succ, List.filter_append]
  simp [h]

theorem hts_no {C : Nat → Int} {k : Int} {n : Nat} (h : ¬ C n ≤ k) : hts C k (n + 1) = hts C k n := by
  unfold hts
  rw [List.range_succ, List.filter_append]
  simp [h]

theorem hts_len (C : Nat → Int) (k : Int) (n : Nat) : (hts C k n).length ≤ n := by
  have := List.length_filter_le (fun i => decide (C i ≤ k)) (List.range n)
  simpa [hts] using this

theorem hts_mem {C : Nat → Int} {k : Int} {n i : Nat} : i ∈ hts C k n ↔ i < n ∧ C i ≤ k := by simp [hts]

theorem hts_sorted (C : Nat → Int) (k : Int) (n : Nat) : (hts C k n).Pairwise (· < ·) := List.Pairwise.filter _ List.pairwise_lt_range

theorem hts_all {C : Nat → Int} {k : Int} {n : Nat} (h : ∀ i, i < n → C i ≤ k) : (hts C k n).length = n := by
  unfold hts
  rw [List.filter_eq_self.2 (fun i hi => by simpa using h i (by simpa using hi))]
  simp

theorem hts_congr {C D : Nat → Int} {k : Int} {n : Nat} (h : ∀ i, i < n → C i = D i) : hts C k n = hts D k n := by
  unfold hts
  refine List.filter_congr (fun i hi => ?_)
  rw [h i (by simpa using hi)]

/-- Of a rising row: the places ahead are less. -/
theorem rise_lt {L : List Nat} (hs : L.Pairwise (· < ·)) {i j : Nat} (hij : i < j) (hj : j < L.length) : L[i]'(by omega) < L[j] := by
  rw [List.pairwise_iff_getElem] at hs
  exact hs i j (by omega) hj hij

/-- The first of a row from x on. -/
def fst' (L : List Nat) (x : Int) : Option Nat := L.find? fun i => decide (x ≤ (i : Int))

theorem fst_yes {L : List Nat} {x : Int} {q : Nat} (h : q < L.length) (hn : ∀ t, (ht : t < q) → ¬ x ≤ ((L[t]'(by omega) : Nat) : Int)) (hy : x ≤ ((L[q] : Nat) : Int)) : fst' L x = some L[q] := by
  unfold fst'
  rw [List.find?_eq_some_iff_getElem]
  refine ⟨by simpa using hy, q, h, rfl, fun t ht => ?_⟩
  have := hn t ht
  simpa using this

theorem fst_no {L : List Nat} {x : Int} (hn : ∀ t, (ht : t < L.length) → ¬ x ≤ ((L[t] : Nat) : Int)) : fst' L x = none := by
  unfold fst'
  rw [List.find?_eq_none]
  intro i hi
  obtain ⟨t, ht, rfl⟩ := List.getElem_of_mem hi
  simpa using hn t ht

/-- A text that goes on. -/
theorem byt_more (s u : ByteArray) (t : Nat) (h : t < s.size) : byt (s ++ u) t = byt s t := by
  have h1 : t < (s ++ u).size := by rw [ByteArray.size_append]; omega
  rw [byt_at s t h, byt_at (s ++ u) t h1, ByteArray.getElem_append_left h]

theorem cts_more (P : Nat → Nat → Bool) (m : Nat) (K : Int) (s u : ByteArray) : stn P m K s.size ≤ stn P m K (s ++ u).size ∧ ∀ i, i < stn P m K s.size → mis P (s ++ u) i m = mis P s i m := by
  constructor
  · rcases Nat.eq_zero_or_pos (stn P m K s.size) with h | h
    · omega
    · obtain ⟨hr, hl⟩ := (stn_lt (i := 0)).1 h
      rw [stn_yes hr (by omega), stn_yes hr (by rw [ByteArray.size_append]; omega), ByteArray.size_append]
      omega
  · intro i hi
    obtain ⟨hr, hl⟩ := stn_lt.1 hi
    exact mis_congr m (fun t ht => by rw [byt_more s u (i + t) (by omega)])

end Cls
end Go.Proofs.Ytpogipingefkaaa
