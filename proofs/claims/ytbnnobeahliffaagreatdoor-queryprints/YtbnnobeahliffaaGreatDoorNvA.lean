/- Counts of what a leaf misses, their places: plain. Contracts of naive.room, naive.misses, naive.At. Contracts of naive.places, and of the function that it tells: the places at which a leaf stands, from one on. Contracts of naive.found, and of the function that it tells: the places at which a leaf misses few enough. Contracts of slices.AppendSeq, slices.Collect (of whatever gives places), naive.Find. Contract of naive.First. Contract of naive.Counts. Contracts of naive.At, naive.Hits; the document's Hits. Contracts of the document's At, Counts, Find, First. -/
import Derived.Test.YtbnnobeahliffaaGreatDoorLfA
import Derived.Test.YtbnnobeahliffaaGreatDoorSeq
import Derived.Shelf.Abstract
import Derived.Shelf.RegionOpen
import Derived.WalkKit
import Derived.TacticsInMore
import Derived.LoopNIn
import Derived.LoopIn
import Derived.Maps.OwnIn

namespace Go.Proofs.YtbnnobeahliffaaGreatDoor
open Go.RowKit
namespace Cls

/-- Byte t of a text. -/
def byt (s : ByteArray) (t : Nat) : Nat := if h : t < s.size then (s[t]'h).toNat else 0

theorem byt_at (s : ByteArray) (t : Nat) (h : t < s.size) : byt s t = (s[t]'h).toNat := by unfold byt; rw [dif_pos h]

theorem byt_lt (s : ByteArray) (t : Nat) : byt s t < 256 := by
  unfold byt
  split
  · exact UInt8.toNat_lt _
  · omega

/-- How many of the first m elements are missed at place i. -/
def mis (P : Nat → Nat → Bool) (s : ByteArray) (i : Nat) : Nat → Nat
  | 0 => 0
  | m + 1 => mis P s i m + (!P m (byt s (i + m))).toNat
  termination_by m => m

theorem mis_zero (P : Nat → Nat → Bool) (s : ByteArray) (i : Nat) : mis P s i 0 = 0 := by rw [mis]

theorem mis_succ (P : Nat → Nat → Bool) (s : ByteArray) (i m : Nat) : mis P s i (m + 1) = mis P s i m + (!P m (byt s (i + m))).toNat := by rw [mis]

theorem mis_le (P : Nat → Nat → Bool) (s : ByteArray) (i m : Nat) : mis P s i m ≤ m := by
  induction m with
  | zero => rw [mis_zero]; omega
  | succ m ih => rw [mis_succ]; have := Bool.toNat_le (!P m (byt s (i + m))); omega

/-- One row of elements behind another one. -/
def bhd (P : Nat → Nat → Bool) (m : Nat) (Q : Nat → Nat → Bool) : Nat → Nat → Bool := fun t => if t < m then P t else Q (t - m)

theorem mis_congr {P Q : Nat → Nat → Bool} {s u : ByteArray} {i j : Nat} : ∀ m, (∀ t, t < m → P t (byt s (i + t)) = Q t (byt u (j + t))) → mis P s i m = mis Q u j m
  | 0, _ => by rw [mis_zero, mis_zero]
  | m + 1, h => by rw [mis_succ, mis_succ, mis_congr m (fun t ht => h t (by omega)), h m (by omega)]

/-- What both miss. -/
theorem mis_two (P Q : Nat → Nat → Bool) (s : ByteArray) (i m : Nat) : ∀ k, mis (bhd P m Q) s i (m + k) = mis P s i m + mis Q s (i + m) k
  | 0 => by
    rw [Nat.add_zero, mis_zero, Nat.add_zero]
    exact mis_congr m (fun t ht => by unfold bhd; rw [if_pos ht])
  | k + 1 => by
    rw [← Nat.add_assoc, mis_succ, mis_two P Q s i m k, mis_succ, Nat.add_assoc, ← Nat.add_assoc i m k]
    congr 3
    unfold bhd
    rw [if_neg (by omega), show m + k - m = k by omega]

theorem mis_full (P : Nat → Nat → Bool) (s : ByteArray) (i : Nat) : ∀ m, (∀ t, t < m → fr (P t) = true) → mis P s i m = 0
  | 0, _ => mis_zero _ _ _
  | m + 1, h => by
    rw [mis_succ, mis_full P s i m (fun t ht => h t (by omega)), (fr_iff (P m)).1 (h m (by omega)) _ (byt_lt s _)]
    rfl

/-- At how many places a leaf stands. -/
def stn (P : Nat → Nat → Bool) (m : Nat) (K : Int) (n : Nat) : Nat := if rgt P m K = true ∧ m ≤ n then n - m + 1 else 0

theorem stn_yes {P : Nat → Nat → Bool} {m n : Nat} {K : Int} (h : rgt P m K = true) (hm : m ≤ n) : stn P m K n = n - m + 1 := if_pos ⟨h, hm⟩

theorem stn_no {P : Nat → Nat → Bool} {m n : Nat} {K : Int} (h : ¬ (rgt P m K = true ∧ m ≤ n)) : stn P m K n = 0 := if_neg h

theorem stn_lt {P : Nat → Nat → Bool} {m n i : Nat} {K : Int} : i < stn P m K n ↔ rgt P m K = true ∧ i + m ≤ n := by
  unfold stn
  split
  · rename_i h; exact ⟨fun hi => ⟨h.1, by omega⟩, fun hi => by omega⟩
  · rename_i h; exact ⟨fun hi => by omega, fun hi => absurd ⟨hi.1, by omega⟩ h⟩

theorem stn_le (P : Nat → Nat → Bool) (m n : Nat) (K : Int) : stn P m K n ≤ n + 1 := by unfold stn; split <;> omega

/-- Its counts. -/
def cts (P : Nat → Nat → Bool) (m : Nat) (K : Int) (s : ByteArray) : List Nat := (List.range (stn P m K s.size)).map fun i => mis P s i m

theorem cts_len (P : Nat → Nat → Bool) (m : Nat) (K : Int) (s : ByteArray) : (cts P m K s).length = stn P m K s.size := by simp [cts]

theorem cts_at (P : Nat → Nat → Bool) (m : Nat) (K : Int) (s : ByteArray) (i : Nat) (h : i < (cts P m K s).length) : (cts P m K s)[i] = mis P s i m := by simp [cts]

/-- The first i of the places that are gone through, where it stands. -/
def ctk (P : Nat → Nat → Bool) (m : Nat) (K : Int) (s : ByteArray) (i : Nat) : List Nat := (List.range (min i (stn P m K s.size))).map fun i => mis P s i m

theorem ctk_zero (P : Nat → Nat → Bool) (m : Nat) (K : Int) (s : ByteArray) : ctk P m K s 0 = [] := by simp [ctk]

theorem ctk_yes {P : Nat → Nat → Bool} {m : Nat} {K : Int} {s : ByteArray} {i : Nat} (h : i < stn P m K s.size) : ctk P m K s (i + 1) = ctk P m K s i ++ [mis P s i m] := by
  unfold ctk
  rw [Nat.min_eq_left (by omega), Nat.min_eq_left (by omega), List.range_succ, List.map_append]
  rfl

theorem ctk_no {P : Nat → Nat → Bool} {m : Nat} {K : Int} {s : ByteArray} {i : Nat} (h : ¬ i < stn P m K s.size) : ctk P m K s (i + 1) = ctk P m K s i := by
  unfold ctk
  rw [Nat.min_eq_right (by omega), Nat.min_eq_right (by omega)]

theorem ctk_end {P : Nat → Nat → Bool} {m : Nat} {K : Int} {s : ByteArray} {i : Nat} (h : stn P m K s.size ≤ i) : ctk P m K s i = cts P m K s := by
  unfold ctk cts
  rw [Nat.min_eq_right h]

theorem ctk_len (P : Nat → Nat → Bool) (m : Nat) (K : Int) (s : ByteArray) (i : Nat) : (ctk P m K s i).length ≤ i := by simp [ctk]; omega

/-- The places among the first n of numbers that are k at most. -/
def hts (C : Nat → Int) (k : Int) (n : Nat) : List Nat := (List.range n).filter fun i => decide (C i ≤ k)

theorem hts_zero (C : Nat → Int) (k : Int) : hts C k 0 = [] := rfl

theorem hts_yes {C : Nat → Int} {k : Int} {n : Nat} (h : C n ≤ k) : hts C k (n + 1) = hts C k n ++ [n] := by
  unfold hts
  rw [List.range_succ, List.filter_append]
  simp [h]

theorem hts_no {C : Nat → Int} {k : Int} {n : Nat} (h : ¬ C n ≤ k) : hts C k (n + 1) = hts C k n := by
  unfold hts
  rw [List.range_succ, List.filter_append]
  simp [h]

theorem hts_len (C : Nat → Int) (k : Int) (n : Nat) : (hts C k n).length ≤ n := by
  have := List.length_filter_le (fun i => decide (C i ≤ k)) (List.range n)
  simpa [hts] using this

theorem hts_mem {C : Nat → Int} {k : Int} {n i : Nat} : i ∈ hts C k n ↔ i < n ∧ C i ≤ k := by simp [hts]

theorem hts_sorted (C : Nat → Int) (k : Int) (n : Nat) : (hts C k n).Pairwise (· < ·) := List.Pairwise.filter _ List.pairwise_lt_range

theorem hts_all {C : Nat → Int} {k : Int} {n : Nat} (h : ∀ i, i < n → C i ≤ k) : (hts C k n).length = n := by
  unfold hts
  rw [List.filter_eq_self.2 (fun i hi => by simpa using h i (by simpa using hi))]
  simp

theorem hts_congr {C D : Nat → Int} {k : Int} {n : Nat} (h : ∀ i, i < n → C i = D i) : hts C k n = hts D k n := by
  unfold hts
  refine List.filter_congr (fun i hi => ?_)
  rw [h i (by simpa using hi)]

/-- Of a rising row: the places ahead are less. -/
theorem rise_lt {L : List Nat} (hs : L.Pairwise (· < ·)) {i j : Nat} (hij : i < j) (hj : j < L.length) : L[i]'(by omega) < L[j] := by
  rw [List.pairwise_iff_getElem] at hs
  exact hs i j (by omega) hj hij

/-- The first of a row from x on. -/
def fst' (L : List Nat) (x : Int) : Option Nat := L.find? fun i => decide (x ≤ (i : Int))

theorem fst_yes {L : List Nat} {x : Int} {q : Nat} (h : q < L.length) (hn : ∀ t, (ht : t < q) → ¬ x ≤ ((L[t]'(by omega) : Nat) : Int)) (hy : x ≤ ((L[q] : Nat) : Int)) : fst' L x = some L[q] := by
  unfold fst'
  rw [List.find?_eq_some_iff_getElem]
  refine ⟨by simpa using hy, q, h, rfl, fun t ht => ?_⟩
  have := hn t ht
  simpa using this

theorem fst_no {L : List Nat} {x : Int} (hn : ∀ t, (ht : t < L.length) → ¬ x ≤ ((L[t] : Nat) : Int)) : fst' L x = none := by
  unfold fst'
  rw [List.find?_eq_none]
  intro i hi
  obtain ⟨t, ht, rfl⟩ := List.getElem_of_mem hi
  simpa using hn t ht

/-- A text that goes on. -/
theorem byt_more (s u : ByteArray) (t : Nat) (h : t < s.size) : byt (s ++ u) t = byt s t := by
  have h1 : t < (s ++ u).size := by rw [ByteArray.size_append]; omega
  rw [byt_at s t h, byt_at (s ++ u) t h1, ByteArray.getElem_append_left h]

theorem cts_more (P : Nat → Nat → Bool) (m : Nat) (K : Int) (s u : ByteArray) : stn P m K s.size ≤ stn P m K (s ++ u).size ∧ ∀ i, i < stn P m K s.size → mis P (s ++ u) i m = mis P s i m := by
  constructor
  · rcases Nat.eq_zero_or_pos (stn P m K s.size) with h | h
    · omega
    · obtain ⟨hr, hl⟩ := (stn_lt (i := 0)).1 h
      rw [stn_yes hr (by omega), stn_yes hr (by rw [ByteArray.size_append]; omega), ByteArray.size_append]
      omega
  · intro i hi
    obtain ⟨hr, hl⟩ := stn_lt.1 hi
    exact mis_congr m (fun t ht => by rw [byt_more s u (i + t) (by omega)])

end Cls

end Go.Proofs.YtbnnobeahliffaaGreatDoor

namespace Go.Proofs.YtbnnobeahliffaaGreatDoor
open Go.RowKit
namespace Cls

theorem rgt_len {P : Nat → Nat → Bool} {n : Nat} {K : Int} (h : rgt P n K = true) : 1 ≤ n ∧ n ≤ 64 ∧ 0 ≤ K ∧ K ≤ 64 := by
  by_cases hh : 1 ≤ n ∧ n ≤ 64 ∧ 0 ≤ K ∧ K ≤ 64
  · exact hh
  · rw [rgt_no hh] at h; cases h

/-- A text's byte. -/
theorem idx_str (s : ByteArray) (q : Nat) (hq : q < s.size) (w : World) : (Instr.index 9 (.string s) (.int .i64 (q : Int))).run Tryz.prog w = .ok (.int .u8 ((byt s q : Nat) : Int)) w := by
  rw [byt_at s q hq]
  have h := run_index_string (P := Tryz.prog) w 9 s .i64 (q : Int) Tryz.underlying9
  rw [h]
  have h2 : (q : Int).toNat = q := by omega
  simp [hq]

end Cls

end Go.Proofs.YtbnnobeahliffaaGreatDoor

namespace Go.Proofs.YtbnnobeahliffaaGreatDoor
open Go.RowKit Go.Shelf
namespace Cls

/-- The places from f on that are below m. -/
def plc (f m : Nat) : List Nat := List.range' f (m - f)

abbrev enc1 (x : Nat) : Array Value := #[.int .i64 (x : Int)]

/-- What a function that goes through places has caught: a leaf, a text, a number, each in a box. -/
structure Cau (w : World) (bl bs bf : Nat) (ao : Option Addr) (n cap : Nat) (P : Nat → Nat → Bool) (K : Int) (s : ByteArray) (x : Int) : Prop where
  l0 : w.cell? ⟨bl, 0, none⟩ = some (.slice ao n cap)
  l1 : w.cell? ⟨bl, 1, none⟩ = some (.int .i64 K)
  s0 : w.cell? ⟨bs, 0, none⟩ = some (.string s)
  x0 : w.cell? ⟨bf, 0, none⟩ = some (.int .i64 x)
  lf : Lf w ao n P

theorem lt_of_cell {w : World} {b o : Nat} {v : Value} (h : w.cell? ⟨b, o, none⟩ = some v) : b < w.heap.size := World.block_lt_of_cell? w _ h

theorem Cau.grow {w w' : World} {bl bs bf n cap : Nat} {ao : Option Addr} {P : Nat → Nat → Bool} {K x : Int} {s : ByteArray} (h : Cau w bl bs bf ao n cap P K s x) (hb : Below w.heap.size w w') : Cau w' bl bs bf ao n cap P K s x :=
  ⟨(hb.cell (p := ⟨bl, 0, none⟩) (lt_of_cell h.l0)).trans h.l0, (hb.cell (p := ⟨bl, 1, none⟩) (lt_of_cell h.l0)).trans h.l1, (hb.cell (p := ⟨bs, 0, none⟩) (lt_of_cell h.s0)).trans h.s0, (hb.cell (p := ⟨bf, 0, none⟩) (lt_of_cell h.x0)).trans h.x0, h.lf.grow hb⟩

/-- The blocks in which that lies. -/
def Blk3 (bl bs bf : Nat) (ao : Option Addr) (n k : Nat) : Prop := k = bl ∨ k = bs ∨ k = bf ∨ (1 ≤ n ∧ ∃ o, ao = some ⟨k, o, none⟩)

theorem Cau.kept {A : Nat → Prop} {w w' : World} {bl bs bf n cap : Nat} {ao : Option Addr} {P : Nat → Nat → Bool} {K x : Int} {s : ByteArray} (h : Cau w bl bs bf ao n cap P K s x) (hb : Fr A w w') (hA : ∀ k, k < w.heap.size → Blk3 bl bs bf ao n k → A k) : Cau w' bl bs bf ao n cap P K s x := by
  have k1 := lt_of_cell h.l0
  have k2 := lt_of_cell h.s0
  have k3 := lt_of_cell h.x0
  refine ⟨(hb.cell (p := ⟨bl, 0, none⟩) (hA _ k1 (.inl rfl)) k1).trans h.l0, (hb.cell (p := ⟨bl, 1, none⟩) (hA _ k1 (.inl rfl)) k1).trans h.l1, (hb.cell (p := ⟨bs, 0, none⟩) (hA _ k2 (.inr (.inl rfl))) k2).trans h.s0, (hb.cell (p := ⟨bf, 0, none⟩) (hA _ k3 (.inr (.inr (.inl rfl)))) k3).trans h.x0, h.lf.small, fun hn => ?_⟩
  obtain ⟨b, o, e, hlt, hc⟩ := h.lf.lies hn
  exact ⟨b, o, e, Nat.lt_of_lt_of_le hlt hb.size, fun t ht k hk => (hb.cell (p := ⟨b, o + t * 4 + k, none⟩) (hA _ hlt (.inr (.inr (.inr ⟨hn, o, e⟩)))) hlt).trans (hc t ht k hk)⟩

theorem Cau.lt {w : World} {bl bs bf n cap : Nat} {ao : Option Addr} {P : Nat → Nat → Bool} {K x : Int} {s : ByteArray} (h : Cau w bl bs bf ao n cap P K s x) {k : Nat} (hk : Blk3 bl bs bf ao n k) : k < w.heap.size := by
  rcases hk with rfl | rfl | rfl | ⟨hn, o, e⟩
  · exact lt_of_cell h.l0
  · exact lt_of_cell h.s0
  · exact lt_of_cell h.x0
  · obtain ⟨b, o', e', hlt, _⟩ := h.lf.lies hn
    rw [e'] at e
    cases e
    exact hlt

/-- The three boxes. -/
theorem cau_new (n cap : Nat) (ao : Option Addr) (P : Nat → Nat → Bool) (K x : Int) (s : ByteArray) (w : World) (hl : Lf w ao n P) :
    ∃ w3, w3 = ((w.alloc (.cells #[.slice ao n cap, .int .i64 K] 34)).alloc (.cells #[.string s] 9)).alloc (.cells #[.int .i64 x] 3) ∧ Cau w3 w.heap.size (w.heap.size + 1) (w.heap.size + 1 + 1) ao n cap P K s x ∧ Below w.heap.size w w3 := by
  obtain ⟨w1, b1⟩ := lbox w (.slice ao n cap) (.int .i64 K)
  have b2 : Below w1.heap.size w1 (w1.alloc (.cells #[.string s] 9)) := (Below.refl _ _).alloc (Nat.le_refl _) _
  have b3 : Below (w1.alloc (.cells #[.string s] 9)).heap.size (w1.alloc (.cells #[.string s] 9)) ((w1.alloc (.cells #[.string s] 9)).alloc (.cells #[.int .i64 x] 3)) := (Below.refl _ _).alloc (Nat.le_refl _) _
  have z1 := b1.size
  have z2 : (w1.alloc (.cells #[.string s] 9)).heap.size = w1.heap.size + 1 := World.size_alloc _ _
  have b13 := b2.trans (b3.mono (by omega))
  refine ⟨_, rfl, ?_, ?_⟩
  · rw [← b1.eq]
    refine ⟨(b13.cell (p := ⟨w.heap.size, 0, none⟩) (by show w.heap.size < _; omega)).trans b1.c0, (b13.cell (p := ⟨w.heap.size, 1, none⟩) (by show w.heap.size < _; omega)).trans b1.c1, ?_, ?_, (hl.grow b1.bel).grow b13⟩
    · have h := (Boxed.new w1 9 (.string s)).cell
      rw [z1] at h
      exact (b3.cell (p := ⟨w.heap.size + 1, 0, none⟩) (by show w.heap.size + 1 < _; omega)).trans h
    · have h := (Boxed.new (w1.alloc (.cells #[.string s] 9)) 3 (.int .i64 x)).cell
      rw [z2, z1] at h
      exact h
  · rw [← b1.eq]
    exact b1.bel.trans (b13.mono (by omega))

theorem plc_len (f m : Nat) : (plc f m).length = m - f := by simp [plc]

theorem plc_zero (f m : Nat) (h : m ≤ f) : plc f m = [] := by simp [plc, show m - f = 0 by omega]

theorem plc_part (f m k : Nat) (h : k < m - f) : List.range' f k ++ [f + k] <+: plc f m := by
  have e : List.range' f k ++ [f + k] = List.range' f (k + 1) := by rw [List.range'_concat]; simp
  rw [e]
  exact ⟨List.range' (f + (k + 1)) (m - f - (k + 1)), by
    unfold plc
    rw [List.range'_append_1]
    congr 1
    omega⟩

end Cls

end Go.Proofs.YtbnnobeahliffaaGreatDoor

namespace Go.Proofs.YtbnnobeahliffaaGreatDoor
open Go.RowKit Go.Shelf
namespace Cls

theorem mis_mono (P : Nat → Nat → Bool) (s : ByteArray) (i : Nat) {k n : Nat} (h : k ≤ n) : mis P s i k ≤ mis P s i n := by
  induction n with
  | zero => rw [show k = 0 by omega]; omega
  | succ n ih =>
    by_cases e : k = n + 1
    · rw [e]; omega
    · rw [mis_succ]; have := ih (by omega); omega

/-- Those of a row of places at which few enough are missed. -/
def flt (P : Nat → Nat → Bool) (n : Nat) (K : Int) (s : ByteArray) (L : List Nat) : List Nat := L.filter fun i => decide ((mis P s i n : Int) ≤ K)

theorem flt_yes {P : Nat → Nat → Bool} {n : Nat} {K : Int} {s : ByteArray} {L : List Nat} {x : Nat} (h : (mis P s x n : Int) ≤ K) : flt P n K s (L ++ [x]) = flt P n K s L ++ [x] := by
  unfold flt
  rw [List.filter_append]
  simp [h]

theorem flt_no {P : Nat → Nat → Bool} {n : Nat} {K : Int} {s : ByteArray} {L : List Nat} {x : Nat} (h : ¬ (mis P s x n : Int) ≤ K) : flt P n K s (L ++ [x]) = flt P n K s L := by
  unfold flt
  rw [List.filter_append]
  simp [h]

theorem flt_part {P : Nat → Nat → Bool} {n : Nat} {K : Int} {s : ByteArray} {L M : List Nat} (h : L <+: M) : flt P n K s L <+: flt P n K s M := List.IsPrefix.filter _ h

theorem plc_mem {f m x : Nat} {pre : List Nat} (h : pre ++ [x] <+: plc f m) : x < m := by
  have hx : x ∈ plc f m := h.subset (by simp)
  simp [plc] at hx
  omega

end Cls

end Go.Proofs.YtbnnobeahliffaaGreatDoor

namespace Go.Proofs.YtbnnobeahliffaaGreatDoor
open Go.RowKit Go.Shelf
namespace Cls

theorem pls_len (L : List Nat) : (pls L).length = L.length := by simp [pls]

theorem pls_snoc (L : List Nat) (x : Nat) : pls (L ++ [x]) = pls L ++ [.int .i64 (x : Int)] := by simp [pls]

/-- What a call tells: a row of its own. -/
def Told (w : World) (L : List Nat) (e : Ending) (w' : World) : Prop :=
  (∃ bo d, e = .returned (.slice bo L.length d) ∧ Is w' bo L ∧ (1 ≤ L.length → ∃ g, bo = some ⟨g, 0, none⟩ ∧ w.heap.size ≤ g) ∧ L.length ≤ d) ∧ Below w.heap.size w w'

theorem told_of {w w' : World} {v : Value} {L : List Nat} (h : w'.ownsRow w.heap.size 3 1 v L.length (pls L)) (hb : Below w.heap.size w w') : Told w L (.returned v) w' := by
  obtain ⟨ao, c, e, hi⟩ := ownI_is (w := w') (B := w.heap.size) (v := v) (L := L) h
  subst e
  refine ⟨⟨ao, c, rfl, hi, fun hn => ?_, ?_⟩, hb⟩
  · obtain ⟨b, e, _⟩ := hi hn
    subst e
    exact ⟨b, rfl, (ownsRow_at h rfl).1⟩
  · rcases h.2 with ⟨e, e2⟩ | ⟨g, cap, cur, e, _, _, hc, _⟩
    · omega
    · injection e with _ _ e3
      omega

theorem Told.from {w v w' : World} {L : List Nat} {e : Ending} (h : Told v L e w') (hb : Below w.heap.size w v) : Told w L e w' := by
  obtain ⟨⟨bo, d, he, hi, hn⟩, hv⟩ := h
  exact ⟨⟨bo, d, he, hi, fun h => by obtain ⟨g, e, hg⟩ := hn.1 h; exact ⟨g, e, Nat.le_trans hb.size hg⟩, hn.2⟩, hb.trans (hv.mono hb.size)⟩

/-- Where a leaf is found. -/
def fnd (P : Nat → Nat → Bool) (n : Nat) (K : Int) (s : ByteArray) : List Nat := flt P n K s (plc 0 (stn P n K s.size))

theorem fnd_hts (P : Nat → Nat → Bool) (n : Nat) (K : Int) (s : ByteArray) : fnd P n K s = hts (fun i => (mis P s i n : Int)) K (stn P n K s.size) := by
  unfold fnd flt plc hts
  rw [Nat.sub_zero, List.range_eq_range']

theorem flt_len (P : Nat → Nat → Bool) (n : Nat) (K : Int) (s : ByteArray) (L : List Nat) : (flt P n K s L).length ≤ L.length := List.length_filter_le _ _

theorem fnd_len (P : Nat → Nat → Bool) (n : Nat) (K : Int) (s : ByteArray) : (fnd P n K s).length ≤ s.size + 1 := by
  have h1 := flt_len P n K s (plc 0 (stn P n K s.size))
  have h2 := stn_le P n s.size K
  rw [plc_len] at h1
  unfold fnd
  omega

end Cls

end Go.Proofs.YtbnnobeahliffaaGreatDoor

namespace Go.Proofs.YtbnnobeahliffaaGreatDoor
open Go.RowKit Go.Shelf
namespace Cls

theorem results_two {fn : Func} {p q : Tmp} (h : fn.results = #[.cell p 3, .cell q 4]) (tmps : Array Value) (v : World) (a b : Nat) (x : Int) (y : Bool) (hp : tmps.getD p undef = .pointer (some ⟨a, 0, none⟩)) (hq : tmps.getD q undef = .pointer (some ⟨b, 0, none⟩))
    (c0 : v.cell? ⟨a, 0, none⟩ = some (.int .i64 x)) (c1 : v.cell? ⟨b, 0, none⟩ = some (.bool y)) : (results fn tmps).run Tryz.prog v = .ok (.tuple #[.int .i64 x, .bool y]) v := by
  have hp' : tmps[p]?.getD undef = .pointer (some ⟨a, 0, none⟩) := by simpa using hp
  have hq' : tmps[q]?.getD undef = .pointer (some ⟨b, 0, none⟩) := by simpa using hq
  simp [results, h, hp', hq', asAddr, go_sem, c0, c1]

theorem range_from (x : Int) (m : Nat) : (List.range m).filter (fun i : Nat => decide (x ≤ (i : Int))) = plc x.toNat m := by
  induction m with
  | zero => simp [plc]
  | succ m ih =>
    rw [List.range_succ, List.filter_append, ih]
    by_cases h : x ≤ (m : Int)
    · have e : m + 1 - x.toNat = (m - x.toNat) + 1 := by omega
      unfold plc
      rw [e, List.range'_concat]
      simp [h]
    · have e : m + 1 - x.toNat = 0 := by omega
      have e2 : m - x.toNat = 0 := by omega
      unfold plc
      rw [e, e2]
      simp [h]

/-- The first of what is found from a place on. -/
theorem fst_flt (P : Nat → Nat → Bool) (n : Nat) (K x : Int) (s : ByteArray) : fst' (fnd P n K s) x = (flt P n K s (plc x.toNat (stn P n K s.size))).head? := by
  unfold fst'
  rw [← List.head?_filter]
  congr 1
  rw [fnd, ← range_from x, show plc 0 (stn P n K s.size) = List.range (stn P n K s.size) by unfold plc; rw [Nat.sub_zero, List.range_eq_range']]
  unfold flt
  rw [List.filter_filter, List.filter_filter]
  refine List.filter_congr (fun i _ => ?_)
  simp [Bool.and_comm]

end Cls

end Go.Proofs.YtbnnobeahliffaaGreatDoor

namespace Go.Proofs.YtbnnobeahliffaaGreatDoor
open Go.RowKit Go.Shelf
namespace Cls

theorem cts_plc (P : Nat → Nat → Bool) (n : Nat) (K : Int) (s : ByteArray) : (plc 0 (stn P n K s.size)).map (fun i => mis P s i n) = cts P n K s := by
  unfold cts plc
  rw [Nat.sub_zero, List.range_eq_range']

end Cls

end Go.Proofs.YtbnnobeahliffaaGreatDoor

namespace Go.Proofs.YtbnnobeahliffaaGreatDoor
open Go.RowKit Go.Shelf
namespace Cls

/-- A slice of n numbers. -/
def Ir (w : World) (ao : Option Addr) (n : Nat) (C : Nat → Int) : Prop := 1 ≤ n → ∃ b o, ao = some ⟨b, o, none⟩ ∧ b < w.heap.size ∧ ∀ t, t < n → w.cell? ⟨b, o + t, none⟩ = some (.int .i64 (C t))

theorem Ir.grow {w w' : World} {ao : Option Addr} {n : Nat} {C : Nat → Int} (h : Ir w ao n C) (hb : Below w.heap.size w w') : Ir w' ao n C := fun hn => by
  obtain ⟨b, o, e, hlt, hc⟩ := h hn
  exact ⟨b, o, e, Nat.lt_of_lt_of_le hlt hb.size, fun t ht => (hb.cell (p := ⟨b, o + t, none⟩) hlt).trans (hc t ht)⟩

theorem Is.ir {w : World} {ao : Option Addr} {L : List Nat} (h : Is w ao L) : Ir w ao L.length (fun t => ((L.getD t 0 : Nat) : Int)) := fun hn => by
  obtain ⟨b, e, hlt, hc⟩ := h hn
  refine ⟨b, 0, e, hlt, fun t ht => ?_⟩
  rw [Nat.zero_add, hc t ht]
  simp [ht]


/-- Does a leaf stand there? -/
def ata (P : Nat → Nat → Bool) (n : Nat) (K : Int) (s : ByteArray) (i : Int) : Bool := decide (0 ≤ i ∧ i < (stn P n K s.size : Int))

/-- How many it misses there. -/
def atv (P : Nat → Nat → Bool) (n : Nat) (K : Int) (s : ByteArray) (i : Int) : Nat := if ata P n K s i = true then mis P s i.toNat n else 0

end Cls

end Go.Proofs.YtbnnobeahliffaaGreatDoor

namespace Go.Proofs.YtbnnobeahliffaaGreatDoor
open Go.RowKit Go.Shelf
namespace Cls

theorem ata_at {P : Nat → Nat → Bool} {n : Nat} {K : Int} {s : ByteArray} {k : Nat} : ata P n K s (k : Int) = decide (k < stn P n K s.size) := by
  unfold ata
  rw [decide_eq_decide]
  omega

theorem atv_at {P : Nat → Nat → Bool} {n : Nat} {K : Int} {s : ByteArray} {k : Nat} (h : k < stn P n K s.size) : atv P n K s (k : Int) = mis P s k n := by
  unfold atv
  rw [ata_at, if_pos (decide_eq_true h)]
  rfl

end Cls

end Go.Proofs.YtbnnobeahliffaaGreatDoor
