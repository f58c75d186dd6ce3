/- Kinds that are frequent and kinds that are rare: plain. A map of how often classes stand; contracts of split.apart and of the closure that it gives. Two rows of classes that are appended to in turn; contract of split.Parts. A map of rows of places; contract of split.elementsByByte. Contract of split.Rare. Contracts of slices.Clone of a row of classes, and of split.freed. Contract of split.misses. Contracts of split.Counts and of split.Find. -/
import Derived.Test.YtlogdjhnhnfbkaaDoorSyA
import Derived.Test.YtlogdjhnhnfbkaaDoorClsB
import Derived.Test.YtlogdjhnhnfbkaaDoorLfA
import Derived.Test.YtlogdjhnhnfbkaaDoorSeq
import Derived.WideKeyEntry
import Derived.RangeFuncBox
import Derived.Deep.QuietTactic
import Derived.BigQuiet
import Derived.Maps.AppendAt
import Derived.Maps.OwnRows
import Derived.Maps.GroupsBeside
import Derived.Test.YtlogdjhnhnfbkaaDoorNvA
import Derived.Test.YtlogdjhnhnfbkaaDoorNvPar
import Derived.Test.YtlogdjhnhnfbkaaDoorNvGre
import Derived.Deep.DeepCutAuto
import Derived.Deep.RegionHeld3

namespace Go.Proofs.YtlogdjhnhnfbkaaDoor
open Go.RowKit Res
namespace Cls

/-- Is x one of L? -/
def amg (L : List (Nat → Bool)) (x : Nat → Bool) : Bool := L.any fun g => sm x g

theorem amg_sm {L : List (Nat → Bool)} {x y : Nat → Bool} (h : sm x y = true) : amg L x = amg L y := by
  unfold amg
  congr 1
  funext g
  exact sm_left h

theorem amg_at (L : List (Nat → Bool)) (x : Nat → Bool) : (List.range L.length).any (fun k => sm x (at' L k)) = amg L x := by
  rw [Bool.eq_iff_iff]
  unfold amg
  rw [List.any_eq_true, List.any_eq_true]
  constructor
  · rintro ⟨t, ht, h⟩
    have ht' : t < L.length := by simpa using ht
    exact ⟨L[t], List.getElem_mem ht', by rw [← at_get ht']; exact h⟩
  · rintro ⟨g, hg, h⟩
    obtain ⟨t, ht, rfl⟩ := List.getElem_of_mem hg
    exact ⟨t, by simpa using ht, by rw [at_get ht]; exact h⟩

/-- How often x stands among the first n. -/
def oft (P : Nat → Nat → Bool) (n : Nat) (x : Nat → Bool) : Nat := (wh P x n).length

theorem oft_zero (P : Nat → Nat → Bool) (x : Nat → Bool) : oft P 0 x = 0 := rfl

theorem oft_succ (P : Nat → Nat → Bool) (n : Nat) (x : Nat → Bool) : oft P (n + 1) x = oft P n x + (sm (P n) x).toNat := by
  unfold oft
  rw [wh_succ]
  cases sm (P n) x <;> simp

theorem oft_le (P : Nat → Nat → Bool) (n : Nat) (x : Nat → Bool) : oft P n x ≤ n := wh_len P x n

theorem oft_sm {P : Nat → Nat → Bool} {n : Nat} {x y : Nat → Bool} (h : sm x y = true) : oft P n x = oft P n y := by
  unfold oft wh
  congr 2
  funext t
  rw [sm_comm (P t) x, sm_comm (P t) y]
  exact sm_left h

/-- Does it stand so often? -/
def frq (P : Nat → Nat → Bool) (n : Nat) (least : Int) (x : Nat → Bool) : Bool := decide (least ≤ (oft P n x : Int))

theorem frq_sm {P : Nat → Nat → Bool} {n : Nat} {least : Int} {x y : Nat → Bool} (h : sm x y = true) : frq P n least x = frq P n least y := by
  unfold frq
  rw [oft_sm h]

/-- The kinds that are frequent, and those that are rare. -/
def fks (P : Nat → Nat → Bool) (n : Nat) (least : Int) : List (Nat → Bool) := (kd P n).filter (frq P n least)

def rks (P : Nat → Nat → Bool) (n : Nat) (least : Int) : List (Nat → Bool) := (kd P n).filter fun c => !frq P n least c

theorem fks_len (P : Nat → Nat → Bool) (n : Nat) (least : Int) : (fks P n least).length ≤ n := Nat.le_trans (List.length_filter_le _ _) (kd_len P n)

theorem rks_len (P : Nat → Nat → Bool) (n : Nat) (least : Int) : (rks P n least).length ≤ n := Nat.le_trans (List.length_filter_le _ _) (kd_len P n)

theorem len_parts {α : Type} (q : α → Bool) (L : List α) : (L.filter q).length + (L.filter fun c => !q c).length = L.length := by
  induction L with
  | nil => rfl
  | cons c L ih => cases h : q c <;> simp [h] <;> omega

theorem ks_len (P : Nat → Nat → Bool) (n : Nat) (least : Int) : (fks P n least).length + (rks P n least).length = (kd P n).length := len_parts _ _

theorem fks_more (P : Nat → Nat → Bool) (n : Nat) {a b : Int} (h : a ≤ b) : (fks P n b).length ≤ (fks P n a).length := by
  have e : fks P n b = (fks P n a).filter (frq P n b) := by
    unfold fks
    rw [List.filter_filter]
    refine List.filter_congr (fun c _ => ?_)
    unfold frq
    by_cases h1 : b ≤ (oft P n c : Int)
    · rw [decide_eq_true h1, decide_eq_true (show a ≤ (oft P n c : Int) by omega)]; rfl
    · rw [decide_eq_false h1]; rfl
  rw [e]
  exact List.length_filter_le _ _

theorem fks_none (P : Nat → Nat → Bool) (n : Nat) {a : Int} (h : (n : Int) < a) : fks P n a = [] := by
  unfold fks
  rw [List.filter_eq_nil_iff]
  intro c _ hc
  have h1 := of_decide_eq_true (show decide (a ≤ (oft P n c : Int)) = true from hc)
  have := oft_le P n c
  omega

/-- Free elements in the places of those that are of L. -/
def frd (P : Nat → Nat → Bool) (L : List (Nat → Bool)) : Nat → Nat → Bool := fun t => if amg L (P t) then (fun _ => true) else P t

theorem frd_yes {P : Nat → Nat → Bool} {L : List (Nat → Bool)} {t : Nat} (h : amg L (P t) = true) : frd P L t = fun _ => true := if_pos h

theorem frd_no {P : Nat → Nat → Bool} {L : List (Nat → Bool)} {t : Nat} (h : amg L (P t) = false) : frd P L t = P t := if_neg (by rw [h]; decide)

theorem fr_all : fr (fun _ => true) = true := (fr_iff _).2 (fun _ _ => rfl)

theorem kd_frd (P : Nat → Nat → Bool) (L : List (Nat → Bool)) : ∀ n, kd (frd P L) n = (kd P n).filter fun c => !amg L c
  | 0 => rfl
  | n + 1 => by
    have ih := kd_frd P L n
    rw [kd, kd]
    cases ha : amg L (P n) with
    | true =>
      rw [frd_yes ha, fr_all, Bool.true_or, if_pos rfl, ih]
      split
      · rfl
      · rw [List.filter_append]; simp [ha]
    | false =>
      rw [frd_no ha]
      have e : (kd (frd P L) n).any (fun g => sm g (P n)) = (kd P n).any fun g => sm g (P n) := by
        rw [ih, Bool.eq_iff_iff, List.any_eq_true, List.any_eq_true]
        constructor
        · rintro ⟨g, hg, h⟩
          exact ⟨g, (List.mem_filter.1 hg).1, h⟩
        · rintro ⟨g, hg, h⟩
          exact ⟨g, List.mem_filter.2 ⟨hg, by rw [amg_sm h, ha]; rfl⟩, h⟩
      rw [e, ih]
      split
      · rfl
      · rw [List.filter_append]; simp [ha]

/-- Of the kinds, those that are rare are among the rare ones alone. -/
theorem amg_rks (P : Nat → Nat → Bool) (n : Nat) (least : Int) {c : Nat → Bool} (hc : c ∈ kd P n) : amg (rks P n least) c = !frq P n least c := by
  rw [Bool.eq_iff_iff]
  constructor
  · intro h
    obtain ⟨g, hg, h⟩ := List.any_eq_true.1 h
    rw [frq_sm h]
    exact (List.mem_filter.1 hg).2
  · intro h
    exact List.any_eq_true.2 ⟨c, List.mem_filter.2 ⟨hc, h⟩, sm_refl c⟩

theorem kd_rks (P : Nat → Nat → Bool) (n : Nat) (least : Int) : kd (frd P (rks P n least)) n = fks P n least := by
  rw [kd_frd]
  exact List.filter_congr (fun c hc => by rw [amg_rks P n least hc, Bool.not_not])

/-- A rare kind is bound. -/
theorem rks_bound (P : Nat → Nat → Bool) (n : Nat) (least : Int) {x : Nat → Bool} (h : amg (rks P n least) x = true) : fr x = false := by
  obtain ⟨g, hg, h⟩ := List.any_eq_true.1 h
  rw [fr_same h]
  exact kd_bound P n g (List.mem_filter.1 hg).1

theorem rgt_frd {P : Nat → Nat → Bool} {n : Nat} {K : Int} (L : List (Nat → Bool)) (h : rgt P n K = true) : rgt (frd P L) n K = true := by
  unfold rgt at h ⊢
  rw [Bool.and_eq_true] at h ⊢
  refine ⟨h.1, ?_⟩
  have he : emp P n = false := by simpa using h.2
  have : emp (frd P L) n = false := any_range_no (fun t ht => by
    cases ha : amg L (P t) with
    | true =>
      rw [frd_yes ha]
      cases hs : sm (fun _ => true) (fun _ => false) with
      | false => rfl
      | true => exact absurd ((sm_iff _ _).1 hs 0 (by omega)) (by decide)
    | false =>
      rw [frd_no ha]
      unfold emp at he
      rw [List.any_eq_false] at he
      simpa using he t (by simpa using ht))
  rw [this]
  rfl

theorem bnd_frd (P : Nat → Nat → Bool) (L : List (Nat → Bool)) : ∀ m, bnd (frd P L) m ≤ bnd P m
  | 0 => Nat.le_refl _
  | m + 1 => by
    have ih := bnd_frd P L m
    rw [bnd_succ, bnd_succ]
    cases ha : amg L (P m) with
    | true => rw [frd_yes ha, fr_all]; simp; omega
    | false => rw [frd_no ha]; omega

/-- What is missed is what is missed of the others, and of these. -/
theorem mis_frd (P : Nat → Nat → Bool) (L : List (Nat → Bool)) (s : ByteArray) (i : Nat) (hL : ∀ t, amg L (P t) = true → fr (P t) = false) : ∀ m, (mis P s i m : Int) = (mis (frd P L) s i m : Int) + ((bnd P m : Int) - (bnd (frd P L) m : Int) - (rre P s i L m : Int))
  | 0 => by rw [mis_zero, mis_zero, bnd_zero, bnd_zero, rre_zero]; rfl
  | m + 1 => by
    have ih := mis_frd P L s i hL m
    rw [mis_succ, mis_succ, bnd_succ, bnd_succ, rre_succ]
    have e : (L.any fun g => sm (P m) g) = amg L (P m) := rfl
    rw [e]
    cases ha : amg L (P m) with
    | true =>
      rw [frd_yes ha, fr_all, hL m ha]
      cases P m (byt s (i + m)) <;> simp <;> omega
    | false =>
      rw [frd_no ha]
      simp
      omega

/-- The places of L's elements that have a byte. -/
def whb (P : Nat → Nat → Bool) (L : List (Nat → Bool)) (n : Nat) (x : Nat) : List Nat := (List.range n).filter fun j => amg L (P j) && P j x

theorem whb_succ (P : Nat → Nat → Bool) (L : List (Nat → Bool)) (n x : Nat) : whb P L (n + 1) x = if amg L (P n) && P n x then whb P L n x ++ [n] else whb P L n x := by
  unfold whb
  rw [List.range_succ, List.filter_append]
  cases h : amg L (P n) && P n x <;> simp [h]

theorem whb_lt {P : Nat → Nat → Bool} {L : List (Nat → Bool)} {n x j : Nat} (h : j ∈ whb P L n x) : j < n := by
  unfold whb at h
  rw [List.mem_filter, List.mem_range] at h
  exact h.1

theorem whb_len (P : Nat → Nat → Bool) (L : List (Nat → Bool)) (n x : Nat) : (whb P L n x).length ≤ n := Nat.le_trans (List.length_filter_le _ _) (by simp)

theorem whb_count (P : Nat → Nat → Bool) (L : List (Nat → Bool)) (x : Nat) {t : Nat} : ∀ {n : Nat}, t < n → (whb P L n x).count t = (amg L (P t) && P t x).toNat
  | n + 1, h => by
    rw [whb_succ]
    have hout : ¬ t < n → (whb P L n x).count t = 0 := fun hn => List.count_eq_zero.2 (fun hm => hn (whb_lt hm))
    by_cases e : t < n
    · have ih := whb_count P L x e
      split
      · rw [List.count_append, ih, List.count_singleton]
        have : (n == t) = false := by simp; omega
        rw [this]; simp
      · exact ih
    · obtain rfl : t = n := by omega
      cases hq : amg L (P t) && P t x with
      | true => rw [if_pos rfl, List.count_append, hout e, List.count_singleton]; simp
      | false => rw [if_neg (by decide), hout e]; rfl

/-- In the middle of element j: those bytes of u have it already. -/
def wmd (P : Nat → Nat → Bool) (L : List (Nat → Bool)) (j : Nat) (u : Nat → Bool) (x : Nat) : List Nat := if u x then whb P L j x ++ [j] else whb P L j x

theorem wmd_none (P : Nat → Nat → Bool) (L : List (Nat → Bool)) (j x : Nat) : wmd P L j (fun _ => false) x = whb P L j x := rfl

theorem wmd_end {P : Nat → Nat → Bool} {L : List (Nat → Bool)} {j : Nat} {u : Nat → Bool} (ha : amg L (P j) = true) {x : Nat} (h : u x = P j x) : wmd P L j u x = whb P L (j + 1) x := by
  rw [whb_succ, ha, Bool.true_and, ← h]
  rfl

theorem whb_not {P : Nat → Nat → Bool} {L : List (Nat → Bool)} {j : Nat} (ha : amg L (P j) = false) (x : Nat) : whb P L (j + 1) x = whb P L j x := by
  rw [whb_succ, ha, Bool.false_and]
  rfl

theorem wmd_len (P : Nat → Nat → Bool) (L : List (Nat → Bool)) (j : Nat) (u : Nat → Bool) (x : Nat) : (wmd P L j u x).length ≤ j + 1 := by
  have := whb_len P L j x
  unfold wmd
  split
  · simp; omega
  · omega

/-- Runs lie apart, rising. -/
theorem rr_apart (f : Nat → Bool) : ∀ n, (rr f n).Pairwise fun p q => p.2 < q.1
  | 0 => by rw [rr_zero]; exact List.Pairwise.nil
  | n + 1 => by
    have ih := rr_apart f n
    cases h : f n with
    | false => rw [rr_not h]; exact ih
    | true =>
      have new : (n = 0 ∨ f (n - 1) = false) → (rr f (n + 1)).Pairwise fun p q => p.2 < q.1 := fun hp => by
        rw [rr_new h hp, List.pairwise_append]
        refine ⟨ih, List.pairwise_singleton _ _, fun a ha b hb => ?_⟩
        rw [List.mem_singleton] at hb
        subst hb
        exact (rr_lt f n a ha).2
      cases n with
      | zero => exact new (Or.inl rfl)
      | succ n =>
        cases hp : f n with
        | false => exact new (Or.inr (by simpa using hp))
        | true =>
          obtain ⟨M, a, e, ha⟩ := rr_last (n := n) hp
          rw [rr_more h hp e]
          rw [e, List.pairwise_append] at ih
          rw [List.pairwise_append]
          refine ⟨ih.1, List.pairwise_singleton _ _, fun x hx b hb => ?_⟩
          rw [List.mem_singleton] at hb
          subst hb
          exact ih.2.2 x hx (a, n) (by simp)

theorem un_before (f : Nat → Bool) (n : Nat) {k x : Nat} (h : k < (rr f n).length) (hx : (rr f n)[k].1 ≤ x) : un ((rr f n).take k) x = false := by
  unfold un
  rw [List.any_eq_false]
  intro p hp
  obtain ⟨t, ht, rfl⟩ := List.getElem_of_mem hp
  rw [List.length_take] at ht
  have h1 := List.pairwise_iff_getElem.1 (rr_apart f n) t k (by omega) h (by omega)
  rw [List.getElem_take]
  unfold rg
  rw [decide_eq_false (show ¬ x < (rr f n)[t].2 + 1 by omega)]
  simp

/-- What is counted in the middle: all of the bytes ahead of i, and the first u of byte i's elements. -/
def kpt (P : Nat → Nat → Bool) (n : Nat) (s : ByteArray) (L : List (Nat → Bool)) (i u p : Nat) : Nat := rre P s p L (min n (i - p)) + (if p ≤ i then ((whb P L n (byt s i)).take u).count (i - p) else 0)

theorem rre_le (P : Nat → Nat → Bool) (s : ByteArray) (i : Nat) (L : List (Nat → Bool)) : ∀ m, rre P s i L m ≤ m
  | 0 => by rw [rre_zero]; exact Nat.le_refl _
  | m + 1 => by
    have := rre_le P s i L m
    rw [rre_succ]
    have := Bool.toNat_le (L.any (fun g => sm (P m) g) && P m (byt s (i + m)))
    omega

theorem kpt_le (P : Nat → Nat → Bool) (n : Nat) (s : ByteArray) (L : List (Nat → Bool)) (i u p : Nat) : kpt P n s L i u p ≤ 2 * n := by
  have h1 := rre_le P s p L (min n (i - p))
  have h2 : ((whb P L n (byt s i)).take u).count (i - p) ≤ n := Nat.le_trans List.count_le_length (by rw [List.length_take]; have := whb_len P L n (byt s i); omega)
  unfold kpt
  split <;> omega

theorem kpt_start (P : Nat → Nat → Bool) (n : Nat) (s : ByteArray) (L : List (Nat → Bool)) (p : Nat) : kpt P n s L 0 0 p = 0 := by
  unfold kpt
  rw [show min n (0 - p) = 0 by omega, rre_zero, List.take_zero]
  split <;> rfl

theorem kpt_step (P : Nat → Nat → Bool) (n : Nat) (s : ByteArray) (L : List (Nat → Bool)) {i u : Nat} (h : u < (whb P L n (byt s i)).length) (p : Nat) :
    kpt P n s L i (u + 1) p = kpt P n s L i u p + (if p + (whb P L n (byt s i))[u] = i then 1 else 0) := by
  unfold kpt
  by_cases hp : p ≤ i
  · rw [if_pos hp, if_pos hp, count_step _ _ h, Nat.add_assoc]
    congr 2
    by_cases e : i - p = (whb P L n (byt s i))[u]
    · rw [if_pos e, if_pos (by omega)]
    · rw [if_neg e, if_neg (by omega)]
  · rw [if_neg hp, if_neg hp, if_neg (by omega)]

theorem kpt_next (P : Nat → Nat → Bool) (n : Nat) (s : ByteArray) (L : List (Nat → Bool)) (i p : Nat) : kpt P n s L i (whb P L n (byt s i)).length p = kpt P n s L (i + 1) 0 p := by
  unfold kpt
  rw [List.take_length, List.take_zero, List.count_nil]
  by_cases hp : p ≤ i
  · rw [if_pos hp]
    have h0 : (if p ≤ i + 1 then 0 else 0) = 0 := by split <;> rfl
    rw [h0, Nat.add_zero]
    by_cases hn : i - p < n
    · rw [show min n (i - p) = i - p by omega, show min n (i + 1 - p) = i - p + 1 by omega, rre_succ, whb_count P L _ hn, show p + (i - p) = i by omega]
      rfl
    · rw [show min n (i - p) = n by omega, show min n (i + 1 - p) = n by omega, List.count_eq_zero.2 (fun hm => hn (whb_lt hm)), Nat.add_zero]
  · rw [if_neg hp, show min n (i - p) = 0 by omega, show min n (i + 1 - p) = 0 by omega]
    split <;> rfl

theorem kpt_end {P : Nat → Nat → Bool} {n : Nat} {s : ByteArray} {L : List (Nat → Bool)} {p : Nat} (h : p + n ≤ s.size) : kpt P n s L s.size 0 p = rre P s p L n := by
  unfold kpt
  rw [show min n (s.size - p) = n by omega, List.take_zero, List.count_nil]
  split <;> rfl

/-- What is amiss. -/
def spe (P : Nat → Nat → Bool) (n : Nat) (K : Int) (m : Nat) (z least : Int) : Int := if rgt P n K = false ∨ pln P n = false then 170 else if (fks P n least).length ≠ 0 ∧ n ≤ m ∧ szb n z = false then 50 else 0

/-- What is counted. -/
def spc (P : Nat → Nat → Bool) (n : Nat) (K : Int) (s : ByteArray) (z least : Int) : List Nat := if spe P n K s.size z least = 0 then cts P n K s else []

/-- How many transforms. -/
def spq (P : Nat → Nat → Bool) (n : Nat) (K : Int) (m : Nat) (z least : Int) : Int := if spe P n K m z least = 0 then ((fks P n least).length : Int) * ct n m z else 0

/-- What is found. -/
def spf (P : Nat → Nat → Bool) (n : Nat) (K : Int) (s : ByteArray) (z least : Int) : List Nat := if spe P n K s.size z least = 0 then fnd P n K s else []

theorem spe_form {P : Nat → Nat → Bool} {n m : Nat} {K z least : Int} (h : rgt P n K = false ∨ pln P n = false) : spe P n K m z least = 170 := if_pos h

theorem spe_size {P : Nat → Nat → Bool} {n m : Nat} {K z least : Int} (h : rgt P n K = true) (hp : pln P n = true) (h1 : (fks P n least).length ≠ 0) (h2 : n ≤ m) (h3 : szb n z = false) : spe P n K m z least = 50 := by
  unfold spe
  rw [if_neg (by rw [h, hp]; simp), if_pos ⟨h1, h2, h3⟩]

theorem spe_ok {P : Nat → Nat → Bool} {n m : Nat} {K z least : Int} (h : rgt P n K = true) (hp : pln P n = true) (h2 : (fks P n least).length = 0 ∨ m < n ∨ szb n z = true) : spe P n K m z least = 0 := by
  unfold spe
  rw [if_neg (by rw [h, hp]; simp), if_neg]
  rintro ⟨a, b, c⟩
  rcases h2 with h2 | h2 | h2
  · exact a h2
  · omega
  · rw [h2] at c; cases c

theorem spc_ok {P : Nat → Nat → Bool} {n : Nat} {K z least : Int} {s : ByteArray} (h : spe P n K s.size z least = 0) : spc P n K s z least = cts P n K s := if_pos h

theorem spc_no {P : Nat → Nat → Bool} {n : Nat} {K z least : Int} {s : ByteArray} (h : ¬ spe P n K s.size z least = 0) : spc P n K s z least = [] := if_neg h

theorem spq_ok {P : Nat → Nat → Bool} {n m : Nat} {K z least : Int} (h : spe P n K m z least = 0) : spq P n K m z least = ((fks P n least).length : Int) * ct n m z := if_pos h

theorem spq_no {P : Nat → Nat → Bool} {n m : Nat} {K z least : Int} (h : ¬ spe P n K m z least = 0) : spq P n K m z least = 0 := if_neg h

theorem spf_ok {P : Nat → Nat → Bool} {n : Nat} {K z least : Int} {s : ByteArray} (h : spe P n K s.size z least = 0) : spf P n K s z least = fnd P n K s := if_pos h

theorem spf_no {P : Nat → Nat → Bool} {n : Nat} {K z least : Int} {s : ByteArray} (h : ¬ spe P n K s.size z least = 0) : spf P n K s z least = [] := if_neg h

theorem spc_len (P : Nat → Nat → Bool) (n : Nat) (K : Int) (s : ByteArray) (z least : Int) : (spc P n K s z least).length ≤ s.size + 1 := by
  unfold spc
  split
  · rw [cts_len]; exact stn_le _ _ _ _
  · simp

theorem spf_len (P : Nat → Nat → Bool) (n : Nat) (K : Int) (s : ByteArray) (z least : Int) : (spf P n K s z least).length ≤ s.size + 1 := by
  unfold spf
  split
  · exact fnd_len P n K s
  · simp

/-- What is found are the places of the counts that are few. -/
theorem spf_hts (P : Nat → Nat → Bool) (n : Nat) (K : Int) (s : ByteArray) (z least : Int) : spf P n K s z least = hts (fun t => (((spc P n K s z least).getD t 0 : Nat) : Int)) K (spc P n K s z least).length := by
  by_cases h : spe P n K s.size z least = 0
  · rw [spf_ok h, spc_ok h, fnd_hts, cts_len]
    refine hts_congr (fun i hi => ?_)
    have hl : i < (cts P n K s).length := by rw [cts_len]; exact hi
    have e : (cts P n K s).getD i 0 = mis P s i n := by rw [List.getD_eq_getElem?_getD, List.getElem?_eq_getElem hl, cts_at]; rfl
    rw [e]
  · rw [spf_no h, spc_no h]
    rfl

/-- What is told hangs not on how often; the more, the fewer transforms. -/
theorem spe_more {P : Nat → Nat → Bool} {n m : Nat} {K z a b : Int} (hab : a ≤ b) (h : spe P n K m z a = 0) : spe P n K m z b = 0 := by
  have hl := fks_more P n hab
  unfold spe at h ⊢
  split at h
  · cases h
  · rename_i h1
    rw [if_neg h1]
    split at h
    · cases h
    · rename_i h2
      rw [if_neg]
      rintro ⟨x, y, z⟩
      exact h2 ⟨by omega, y, z⟩

theorem spq_bounds {P : Nat → Nat → Bool} {n m : Nat} {z least : Int} (hn : n ≤ 64) : 0 ≤ ((fks P n least).length : Int) * ct n m z ∧ ((fks P n least).length : Int) * ct n m z ≤ 422212465066176 := by
  have hk := fks_len P n least
  obtain ⟨c0, c1⟩ := ct_small11 (n := n) (m := m) (z := z)
  have g1 : ((fks P n least).length : Int) * ct n m z ≤ 64 * 6597069766659 := Int.mul_le_mul (by omega) c1 c0 (by omega)
  have g2 : 0 ≤ ((fks P n least).length : Int) * ct n m z := Int.mul_nonneg (by omega) c0
  omega

end Cls

end Go.Proofs.YtlogdjhnhnfbkaaDoor

namespace Go.Proofs.YtlogdjhnhnfbkaaDoor
open Go.RowKit Go.Maps Go.MapKept Go.ChangeMaps
namespace Cls

set_option maxRecDepth 100000 in
theorem keyLawK : Go.WideMaps.KeyLaw Tryd.prog 51 := deep_law_laid laidOutM (m := 2) (by omega) rowK (by kernel_rfl) wideK

theorem zeroI (w : World) : (zeroValue 3).run Tryd.prog w = .ok (.int .i64 0) w := by kernel_rfl

/-- What a map of numbers tells of a class. -/
def Tells (D : DataW Unit) (F : (Nat → Bool) → Nat) : Prop := ∀ f, D.atKey (kl (keyOf Tryd.prog 51) f) (.lit (.int .i64 0)) = .lit (.int .i64 (F f : Int))

def OwnN (w : World) (b n : Nat) (D : DataW Unit) : Prop := w.ownsMap Tryd.prog 51 (plainElem Tryd.prog 3) b n D

set_option maxRecDepth 100000 in
theorem tells_look {w : World} {b n : Nat} {D : DataW Unit} {F : (Nat → Bool) → Nat} (h : OwnN w b n D) (ht : Tells D F) (f : Nat → Bool) :
    (Instr.lookup 70 (.map (some b)) (.agg #[.int .u64 ((wd (f) 0 : Nat) : Int), .int .u64 ((wd (f) 1 : Nat) : Int), .int .u64 ((wd (f) 2 : Nat) : Int), .int .u64 ((wd (f) 3 : Nat) : Int)]) false).run Tryd.prog w = .ok (.int .i64 (F f : Int)) w := by
  obtain ⟨c, hrun, hat, _⟩ := World.ownsMap.lookup_int h lawK Tryd.underlying70 Tryd.underlying3 (zeroI w) (kl_of f)
  rw [hrun]
  have := hat.symm.trans (ht f)
  injection this with this
  injection this with _ this
  rw [this]

set_option maxRecDepth 100000 in
/-- One more at a class: its entry, what is there once it is, and the store. -/
theorem tells_more {w : World} {b n : Nat} {D : DataW Unit} {F : (Nat → Bool) → Nat} (h : OwnN w b n D) (hn : n < maxLen) (ht : Tells D F) (f : Nat → Bool) (x : Int) (hx : (Lit.int .i64 x).wf = true) :
    ∃ st w1, (Instr.mapEntry 70 (.map (some b)) (.agg #[.int .u64 ((wd (f) 0 : Nat) : Int), .int .u64 ((wd (f) 1 : Nat) : Int), .int .u64 ((wd (f) 2 : Nat) : Int), .int .u64 ((wd (f) 3 : Nat) : Int)])).run Tryd.prog w = .ok (.tuple #[.int .i64 (F f : Int), .int .i64 st]) w1 ∧
      (Instr.lookup 70 (.map (some b)) (.agg #[.int .u64 ((wd (f) 0 : Nat) : Int), .int .u64 ((wd (f) 1 : Nat) : Int), .int .u64 ((wd (f) 2 : Nat) : Int), .int .u64 ((wd (f) 3 : Nat) : Int)]) false).run Tryd.prog w1 = .ok (.int .i64 (F f : Int)) w1 ∧
      ∃ w2, (Instr.entryStore 70 (.map (some b)) (.int .i64 st) (.int .i64 x)).run Tryd.prog w1 = .ok () w2 ∧
        OwnN w2 b (n + 1) (D.put (kl (keyOf Tryd.prog 51) f) (.lit (.int .i64 x))) ∧ w.grownBy w2 (some b) := by
  have hlk := tells_look h ht f
  obtain ⟨w2, hup, hown2, hg2⟩ := World.ownsMap.update h lawK Tryd.underlying70 hn (kl_of f) (plainElem_int Tryd.underlying3 hx)
  have h0 : (Lit.int .i64 0).wf = true := by decide
  obtain ⟨w3, hup3, hown3, hg3⟩ := World.ownsMap.update h lawK Tryd.underlying70 hn (kl_of f) (plainElem_int Tryd.underlying3 h0)
  have hh := h
  obtain ⟨es, clock, hb, Ft, hs, hD⟩ := h
  obtain ⟨v0, st, es1, clock1, hent, hv0, hst⟩ := Go.WideElems.entry_then_store keyLawK Tryd.underlying70 (fun u => zeroI u) hb Ft (kl_of f)
  obtain ⟨es', clock', hes, hmu⟩ := hst (setBlock w b (.map es1 clock1)) (.int .i64 x) (heap_setBlock_same hb _)
  have hw2 : setBlock w b (.map es' clock') = w2 := by rw [hmu] at hup; injection hup
  have hse : setBlock (setBlock w b (.map es1 clock1)) b (.map es' clock') = setBlock w b (.map es' clock') := by simp [setBlock]
  rw [hse, hw2] at hes
  have hkeys : ∀ e ∈ es.toList, ∃ l, keyOf Tryd.prog 51 e.key = some l := Ft.keys
  have key := kl_of f
  have ht' := Tryd.underlying70
  rcases keyLawK.find w key es.toList hkeys with ⟨h1, h2⟩ | ⟨j, e0, h1, h2, h3⟩
  · have hl0 : (Instr.lookup 70 (.map (some b)) (.agg #[.int .u64 ((wd (f) 0 : Nat) : Int), .int .u64 ((wd (f) 1 : Nat) : Int), .int .u64 ((wd (f) 2 : Nat) : Int), .int .u64 ((wd (f) 3 : Nat) : Int)]) false).run Tryd.prog w = .ok (.int .i64 0) w := by
      simp [Instr.lookup, run_underlying ht', MapKept.run_getObj_map hb, keyLawK.check w _ key, h1, Result.andThen]
    have e0 : (F f : Int) = 0 := by rw [hlk] at hl0; injection hl0 with hl0; injection hl0
    have hen : (Instr.mapEntry 70 (.map (some b)) (.agg #[.int .u64 ((wd (f) 0 : Nat) : Int), .int .u64 ((wd (f) 1 : Nat) : Int), .int .u64 ((wd (f) 2 : Nat) : Int), .int .u64 ((wd (f) 3 : Nat) : Int)])).run Tryd.prog w = .ok (.tuple #[.int .i64 0, goInt clock]) (setBlock w b (.map (es.push ⟨.agg #[.int .u64 ((wd (f) 0 : Nat) : Int), .int .u64 ((wd (f) 1 : Nat) : Int), .int .u64 ((wd (f) 2 : Nat) : Int), .int .u64 ((wd (f) 3 : Nat) : Int)], .int .i64 0, clock⟩) (clock + 1))) := by
      simp [Instr.mapEntry, run_underlying ht', MapKept.run_getObj_map hb, keyLawK.check w false key, h1, MapKept.run_setObj_map _ hb, Result.andThen, setBlock]
    have hmz : (Instr.mapUpdate 70 (.map (some b)) (.agg #[.int .u64 ((wd (f) 0 : Nat) : Int), .int .u64 ((wd (f) 1 : Nat) : Int), .int .u64 ((wd (f) 2 : Nat) : Int), .int .u64 ((wd (f) 3 : Nat) : Int)]) (.int .i64 0)).run Tryd.prog w = .ok () (setBlock w b (.map (es.push ⟨.agg #[.int .u64 ((wd (f) 0 : Nat) : Int), .int .u64 ((wd (f) 1 : Nat) : Int), .int .u64 ((wd (f) 2 : Nat) : Int), .int .u64 ((wd (f) 3 : Nat) : Int)], .int .i64 0, clock⟩) (clock + 1))) := by
      simp [Instr.mapUpdate, run_underlying ht', MapKept.run_getObj_map hb, keyLawK.check w false key, h1, MapKept.run_setObj_map _ hb, Result.andThen, setBlock]
    have hw3 : setBlock w b (.map (es.push ⟨.agg #[.int .u64 ((wd (f) 0 : Nat) : Int), .int .u64 ((wd (f) 1 : Nat) : Int), .int .u64 ((wd (f) 2 : Nat) : Int), .int .u64 ((wd (f) 3 : Nat) : Int)], .int .i64 0, clock⟩) (clock + 1)) = w3 := by rw [hmz] at hup3; injection hup3
    rw [hent] at hen
    injection hen with hen hw1
    rw [hw3] at hw1
    rw [hw1] at hent hes
    injection hen with hen
    have e1 : v0 = .int .i64 0 := by have := congrArg (fun a : Array Value => a[0]?) hen; simpa using this
    subst e1
    obtain ⟨c, hrun, hat, _⟩ := World.ownsMap.lookup_int hown3 lawK Tryd.underlying70 Tryd.underlying3 (zeroI w3) (kl_of f)
    rw [atKey_put_same (World.ownsMap.isMap hh) (kl_key f)] at hat
    injection hat with hat
    injection hat with _ hat
    refine ⟨st, w3, by rw [e0]; exact hent, by rw [hrun, ← hat, e0], w2, hes, hown2, hg2⟩
  · have hj : es[j]? = some e0 := by simpa using h2
    have hl0 : (Instr.lookup 70 (.map (some b)) (.agg #[.int .u64 ((wd (f) 0 : Nat) : Int), .int .u64 ((wd (f) 1 : Nat) : Int), .int .u64 ((wd (f) 2 : Nat) : Int), .int .u64 ((wd (f) 3 : Nat) : Int)]) false).run Tryd.prog w = .ok e0.val w := by
      simp [Instr.lookup, run_underlying ht', MapKept.run_getObj_map hb, keyLawK.check w _ key, h1, Result.andThen]
    have e1 : e0.val = .int .i64 (F f : Int) := by rw [hlk] at hl0; injection hl0 with hl0; exact hl0.symm
    have hsame : es.modify j (fun e => { e with key := .agg #[.int .u64 ((wd (f) 0 : Nat) : Int), .int .u64 ((wd (f) 1 : Nat) : Int), .int .u64 ((wd (f) 2 : Nat) : Int), .int .u64 ((wd (f) 3 : Nat) : Int)] }) = es := by
      apply Array.ext'
      rw [Array.toList_modify, modify_eq_set _ _ _ _ h2]
      have : ({ e0 with key := .agg #[.int .u64 ((wd (f) 0 : Nat) : Int), .int .u64 ((wd (f) 1 : Nat) : Int), .int .u64 ((wd (f) 2 : Nat) : Int), .int .u64 ((wd (f) 3 : Nat) : Int)] } : MapEntry) = e0 := by rw [← h3]
      rw [this]
      exact Go.WideElems.set_self _ _ _ h2
    have hen : (Instr.mapEntry 70 (.map (some b)) (.agg #[.int .u64 ((wd (f) 0 : Nat) : Int), .int .u64 ((wd (f) 1 : Nat) : Int), .int .u64 ((wd (f) 2 : Nat) : Int), .int .u64 ((wd (f) 3 : Nat) : Int)])).run Tryd.prog w = .ok (.tuple #[e0.val, goInt e0.born]) (setBlock w b (.map es clock)) := by
      simp [Instr.mapEntry, run_underlying ht', MapKept.run_getObj_map hb, keyLawK.check w false key, h1, hj, h3, keyLawK.stays w key, hsame, MapKept.run_setObj_map _ hb, Result.andThen, setBlock]
    have hw1 : setBlock w b (.map es clock) = w := by
      have e : w.heap.setIfInBounds b (.map es clock) = w.heap := by
        apply Array.ext_getElem?
        intro i
        by_cases hi : i = b
        · subst hi
          exact (heap_setBlock_same hb _).trans hb.symm
        · exact heap_setBlock_other hb _ hi
      unfold setBlock
      rw [e]
    rw [hw1] at hen
    rw [hent] at hen
    injection hen with hen hw0
    rw [hw0] at hent hes
    injection hen with hen
    have e2 : v0 = .int .i64 (F f : Int) := by have := congrArg (fun a : Array Value => a[0]?) hen; rw [← e1]; simpa using this
    subst e2
    exact ⟨st, w, hent, hlk, w2, hes, hown2, hg2⟩

set_option maxRecDepth 100000 in
theorem tells_put {D : DataW Unit} {F G : (Nat → Bool) → Nat} (hD : IsMap D) (ht : Tells D F) (f : Nat → Bool) (hG : ∀ g, G g = if sm f g then F f + 1 else F g) :
    Tells (D.put (kl (keyOf Tryd.prog 51) f) (.lit (.int .i64 ((F f : Int) + 1)))) G := by
  intro g
  have hk := kl_same f g
  rw [hG g]
  cases h : sm f g with
  | true =>
    rw [h] at hk
    rw [← WideAt.sameKey_eq hk, atKey_put_same hD (kl_key f)]
    simp
  | false =>
    rw [h] at hk
    have hne : kl (keyOf Tryd.prog 51) g ≠ kl (keyOf Tryd.prog 51) f := fun e => by rw [e, WideAt.sameKey_self (kl_key f)] at hk; cases hk
    rw [atKey_put_other hne, ht g]
    simp

theorem own_fr {w w' : World} {A : Nat → Prop} {b n : Nat} {D : DataW Unit} (h : OwnN w b n D) (hf : Fr A w w') (hb : A b) : OwnN w' b n D := by
  have hlt := World.ownsMap.lt h
  obtain ⟨es, clock, h1, h2⟩ := h
  exact ⟨es, clock, (hf.block b hlt hb).trans h1, h2⟩

theorem oft_put (P : Nat → Nat → Bool) (k : Nat) (g : Nat → Bool) : oft P (k + 1) g = if sm (P k) g then oft P k (P k) + 1 else oft P k g := by
  rw [oft_succ]
  cases h : sm (P k) g with
  | true => rw [if_pos rfl, oft_sm h]; rfl
  | false => simp

/-- What the closure reads: a map of how often each class stands, and how often is often. -/
structure Apt (w : World) (ob lb : Nat) (P : Nat → Nat → Bool) (n : Nat) (least : Int) : Prop where
  own : ∃ B N D, w.cell? ⟨ob, 0, none⟩ = some (.map (some B)) ∧ OwnN w B N D ∧ Tells D (oft P n)
  c1 : w.cell? ⟨lb, 0, none⟩ = some (.int .i64 least)

theorem Apt.grow {w w' : World} {ob lb : Nat} {P : Nat → Nat → Bool} {n : Nat} {least : Int} (h : Apt w ob lb P n least) (hb : Below w.heap.size w w') : Apt w' ob lb P n least := by
  obtain ⟨B, N, D, h0, h1, h2⟩ := h.own
  exact ⟨⟨B, N, D, (hb.cell (p := ⟨ob, 0, none⟩) (World.block_lt_of_cell? w _ h0)).trans h0, map_below h1 hb (World.ownsMap.lt h1), h2⟩, (hb.cell (p := ⟨lb, 0, none⟩) (World.block_lt_of_cell? w _ h.c1)).trans h.c1⟩

set_option maxHeartbeats 1000000 in
theorem apart1_any (P : Nat → Nat → Bool) (n : Nat) (least : Int) (f : Nat → Bool) (ob lb : Nat) (w : World) (h : Apt w ob lb P n least) :
    Calls Tryd.prog 45 #[.agg #[.int .u64 ((wd (f) 0 : Nat) : Int), .int .u64 ((wd (f) 1 : Nat) : Int), .int .u64 ((wd (f) 2 : Nat) : Int), .int .u64 ((wd (f) 3 : Nat) : Int)], .pointer (some ⟨ob, 0, none⟩), .pointer (some ⟨lb, 0, none⟩)] w fun e w' => e = .returned (.bool (frq P n least f)) ∧ Below w.heap.size w w' := by
  obtain ⟨w1, b1⟩ := box w f
  have E1 : Hid _ := b1.eq
  have B1 : Hid (Below w.heap.size w w1) := b1.bel
  have h1 := h.grow b1.bel
  obtain ⟨a0, a1, a2, a3⟩ := c4 b1.fam
  obtain ⟨B, N, D, d0, d1, d2⟩ := h1.own
  have d3 := h1.c1
  have hlk : ∀ q, (Instr.lookup 70 (.map (some B)) (.agg #[.int .u64 ((wd (f) 0 : Nat) : Int), .int .u64 ((wd (f) 1 : Nat) : Int), .int .u64 ((wd (f) 2 : Nat) : Int), .int .u64 ((wd (f) 3 : Nat) : Int)]) false).run Tryd.prog (w1.drewN q) = .ok (.int .i64 ((oft P n f : Nat) : Int)) (w1.drewN q) := fun q => tells_look (w := w1.drewN q) (show OwnN (w1.drewN q) B N D from d1) d2 f
  have hfr : Hid (decide (least ≤ ((oft P n f : Nat) : Int)) = frq P n least f) := rfl
  clear h h1 d1 d2 b1
  go_enter Tryd.func45, Tryd.ntmps45
  go_wp2_with (first | rw [← E1.out])
  go_quiet (fail)
  go_wp2_with fail
  go_ret
  exact ⟨by rw [← hfr.out]; rfl, ⟨B1.out.os, B1.out.tape, B1.out.output, B1.out.size, B1.out.block⟩⟩

set_option maxRecDepth 100000 in
set_option maxHeartbeats 4000000 in
theorem apart_any (P : Nat → Nat → Bool) (n cap : Nat) (ao : Option Addr) (K least : Int) (w : World) (hl : Lf w ao n P) :
    Calls Tryd.prog 25 #[.agg #[.slice ao n cap, .int .i64 K], .int .i64 least] w fun e w' =>
      (∃ ob lb, e = .returned (.func (.func 45) #[] #[.pointer (some ⟨ob, 0, none⟩), .pointer (some ⟨lb, 0, none⟩)]) ∧ Apt w' ob lb P n least) ∧ Below w.heap.size w w' := by
  obtain ⟨w1, b1⟩ := lbox w (.slice ao n cap) (.int .i64 K)
  obtain ⟨w2, e2⟩ : ∃ w2, w2 = w1.alloc (.cells #[.int .i64 least] 3) := ⟨_, rfl⟩
  obtain ⟨w3, e3⟩ : ∃ w3, w3 = w2.alloc (.map #[] 0) := ⟨_, rfl⟩
  obtain ⟨w4, e4⟩ : ∃ w4, w4 = w3.alloc (.cells #[.map (some w2.heap.size)] 70) := ⟨_, rfl⟩
  have x2 : Boxed w2 w1.heap.size 3 (.int .i64 least) := by rw [e2]; exact Boxed.new w1 _ _
  have x4 : Boxed w4 w3.heap.size 70 (.map (some w2.heap.size)) := by rw [e4]; exact Boxed.new w3 _ _
  have b2 : Below w1.heap.size w1 w2 := by rw [e2]; exact (Below.refl _ _).alloc (Nat.le_refl _) _
  have b3 : Below w2.heap.size w2 w3 := by rw [e3]; exact (Below.refl _ _).alloc (Nat.le_refl _) _
  have b4 : Below w3.heap.size w3 w4 := by rw [e4]; exact (Below.refl _ _).alloc (Nat.le_refl _) _
  have z1 : w1.heap.size = w.heap.size + 1 := b1.size
  have z2 : w2.heap.size = w1.heap.size + 1 := by rw [e2, World.size_alloc]
  have z3 : w3.heap.size = w2.heap.size + 1 := by rw [e3, World.size_alloc]
  have z4 : w4.heap.size = w3.heap.size + 1 := by rw [e4, World.size_alloc]
  have b24 : Below w2.heap.size w2 w4 := b3.trans (b4.mono b3.size)
  have b14 : Below w1.heap.size w1 w4 := b2.trans (b24.mono b2.size)
  have B4 : Hid (Below w.heap.size w w4) := b1.bel.trans (b14.mono b1.bel.size)
  have HO : Hid (OwnN w4 w2.heap.size 0 (.map [])) := by
    show World.ownsMap _ _ _ _ _ _ _
    have h3 : w3.ownsMap Tryd.prog 51 (plainElem Tryd.prog 3) w2.heap.size 0 (.map [] : DataW Unit) := by rw [e3]; exact World.ownsMap_made _ _ _ _
    rw [e4]
    exact h3.alloc _
  obtain ⟨d0, d1⟩ : w4.cell? ⟨w.heap.size, 0, none⟩ = some (.slice ao n cap) ∧ w4.cell? ⟨w.heap.size, 1, none⟩ = some (.int .i64 K) := two_below ⟨b1.c0, b1.c1⟩ b14 (by omega)
  have HB : Hid (w4.cell? ⟨w3.heap.size, 0, none⟩ = some (.map (some w2.heap.size)) ∧ w4.cell? ⟨w1.heap.size, 0, none⟩ = some (.int .i64 least)) := ⟨x4.cell, (b24.cell (p := ⟨w1.heap.size, 0, none⟩) (by show w1.heap.size < w2.heap.size; omega)).trans x2.cell⟩
  have HZ : Hid (w1.heap.size = w.heap.size + 1 ∧ w2.heap.size = w1.heap.size + 1 ∧ w3.heap.size = w2.heap.size + 1 ∧ w4.heap.size = w3.heap.size + 1) := ⟨z1, z2, z3, z4⟩
  have E1 : Hid _ := b1.eq
  have E2 : Hid _ := e2
  have E3 : Hid _ := e3
  have E4 : Hid _ := e4
  have S1 : Hid (w.heap.size + 1 = w1.heap.size) := z1.symm
  have S2 : Hid (w1.heap.size + 1 = w2.heap.size) := z2.symm
  have S3 : Hid (w2.heap.size + 1 = w3.heap.size) := z3.symm
  have hn := hl.small
  have hmm := @run_makeMap Tryd.prog
  have HL : Hid _ := hl
  have hg2 : w2.heap.size ≠ w3.heap.size ∧ w.heap.size < w2.heap.size ∧ w2.heap.size < w4.heap.size ∧ w3.heap.size < w4.heap.size ∧ w1.heap.size < w4.heap.size ∧ w1.heap.size ≠ w2.heap.size := by omega
  clear b1 b2 b3 b4 e2 e3 e4 x2 x4 z1 z2 z3 z4 b24 b14 hl
  go_enter Tryd.func25, Tryd.ntmps25
  go_wp2_with (first | rw [← E1.out, ← E2.out] | rw [← E3.out] | rw [← E4.out] | rw [S1.out] | rw [S2.out] | rw [S3.out])
  clear E1 E2 E3 E4 S1 S2 S3 hmm d0 d1
  go_loopw [12] (fun vk wr => Fr (fun j => j ≠ w2.heap.size) w4 wr ∧ ∃ k : Nat, k ≤ n ∧ vk = .int .i64 k ∧ ∃ D, OwnN wr w2.heap.size k D ∧ Tells D (oft P k)) (fun vk _ => n - (intOf vk).toNat)
  case atStart => exact ⟨Fr.refl _ _, 0, Nat.zero_le _, rfl, _, HO.out, fun f => rfl⟩
  case round =>
    obtain ⟨hfr, k, hk, rfl, D, hown, htell⟩ := hrel
    have hBr : Below w.heap.size w wr := B4.out.trans (hfr.below (by omega) (fun j hj => by omega))
    have HF : Hid (Fr (fun j => j ≠ w2.heap.size) w4 wr) := hfr
    have dB : wr.cell? ⟨w3.heap.size, 0, none⟩ = some (.map (some w2.heap.size)) := (hfr.cell (p := ⟨w3.heap.size, 0, none⟩) (by show w3.heap.size ≠ w2.heap.size; omega) (by show w3.heap.size < w4.heap.size; omega)).trans HB.out.1
    have dL : wr.cell? ⟨w1.heap.size, 0, none⟩ = some (.int .i64 least) := (hfr.cell (p := ⟨w1.heap.size, 0, none⟩) (by show w1.heap.size ≠ w2.heap.size; omega) (by show w1.heap.size < w4.heap.size; omega)).trans HB.out.2
    have hs4 : w4.heap.size ≤ wr.heap.size := hfr.size
    clear hfr
    by_cases hkn : k < n
    · obtain ⟨b, o, rfl, hb, hC⟩ := (HL.out.grow hBr).lies (by omega)
      obtain ⟨c0, c1, c2, c3⟩ := hC.four hkn
      have hkI : (k : Int) < (n : Int) := by omega
      obtain ⟨w5, b5⟩ := box wr (P k)
      have E5 : Hid _ := b5.eq
      have B5 : Hid (Below wr.heap.size wr w5) := b5.bel
      have hown5 : OwnN w5.drew w2.heap.size k D := own_fr hown ((Fr.of_below (A := fun _ => True) b5.bel (fun _ hk _ => hk)).drew) trivial
      obtain ⟨e0, e1, e2, e3⟩ := c4 (b5.fam)
      have dB5 : w5.cell? ⟨w3.heap.size, 0, none⟩ = some (.map (some w2.heap.size)) := (b5.bel.cell (p := ⟨w3.heap.size, 0, none⟩) (by show w3.heap.size < wr.heap.size; omega)).trans dB
      have hx : IntKind.i64.wrap ((oft P k (P k) : Int) + 1) = (oft P k (P k) : Int) + 1 := by have := oft_le P k (P k); rw [IntKind.wrap_i64]; omega
      have hlk := tells_look hown5 htell (P k)
      obtain ⟨st, w6, hent, hlk6, w7, hst, hown7, hg7⟩ := tells_more hown5 (by unfold maxLen; omega) htell (P k) ((oft P k (P k) : Int) + 1) (by have := oft_le P k (P k); exact WalkArith.wf_i64 (by omega))
      have HT : Hid (Tells (D.put (kl (keyOf Tryd.prog 51) (P k)) (.lit (.int .i64 ((oft P k (P k) : Int) + 1)))) (oft P (k + 1))) := tells_put (World.ownsMap.isMap hown5) htell (P k) (oft_put P k)
      have HO7 : Hid _ := hown7
      have HF7 : Hid (Fr (fun j => j ≠ w2.heap.size) w4 w7) := ((HF.out.trans (Fr.of_below B5.out (fun _ h _ => h))).drew).grown hg7 (fun j hj => by cases hj; simp)
      clear hC b5 hown hown5 htell hown7 hg7 dB
      generalize oft P k (P k) = c at *
      go_wp2_with (first | rw [← E5.out])
      go_region
      all_goals
        go_wp2_with fail
        go_roundw
        case rel => exact ⟨HF7.out, k + 1, by omega, by go_num, _, HO7.out, HT.out⟩
        case measure => simp [intOf]; omega
    · obtain rfl : k = n := by omega
      have HA : Hid (Apt wr w3.heap.size w1.heap.size P k least) := ⟨⟨_, _, _, dB, hown, htell⟩, dL⟩
      have HBr : Hid _ := hBr
      clear hown htell hBr
      go_wp2_with fail
      go_ret
      exact ⟨⟨_, _, rfl, HA.out⟩, HBr.out⟩

end Cls

end Go.Proofs.YtlogdjhnhnfbkaaDoor

namespace Go.Proofs.YtlogdjhnhnfbkaaDoor
open Go.RowKit Go.Maps
namespace Cls

/-- Two rows that lie apart. -/
structure TwoC (w : World) (B : Nat) (v u : Value) (F G : List (Nat → Bool)) : Prop where
  a : OwnC w B v F
  b : OwnC w B u G
  ne : v.ownBlock = none ∨ v.ownBlock ≠ u.ownBlock

theorem TwoC.symm {w : World} {B : Nat} {v u : Value} {F G : List (Nat → Bool)} (h : TwoC w B v u F G) : TwoC w B u v G F :=
  ⟨h.b, h.a, by
    rcases h.ne with e | e
    · cases hu : u.ownBlock with
      | none => exact .inl rfl
      | some g => exact .inr (by rw [e]; simp)
    · exact .inr (fun e' => e e'.symm)⟩

theorem TwoC.below {w w' : World} {B C : Nat} {v u : Value} {F G : List (Nat → Bool)} (h : TwoC w B v u F G) (hb : Below C w w') (hC : w.heap.size ≤ C) : TwoC w' B v u F G := ⟨owns_below h.a hb hC, owns_below h.b hb hC, h.ne⟩

theorem TwoC.step {w w1 : World} {B : Nat} {v u v' : Value} {F G : List (Nat → Bool)} {x : Nat → Bool} (h : TwoC w B v u F G) (o : Obj) (hown : w1.ownsRow B 51 4 v' (F.length + 1) (cls F ++ cls [x])) (hg : (w.alloc o).grownBy w1 v.ownBlock) (hat : v'.ownBlock = v.ownBlock ∨ v'.ownBlock = some (w.heap.size + 1)) : TwoC w1 B v' u (F ++ [x]) G := by
  have hb : w1.ownsRow B 51 4 u G.length (cls G) := World.ownsRow.kept (World.ownsRow.alloc h.b o) hg h.symm.ne
  refine ⟨?_, hb, ?_⟩
  · unfold OwnC
    rw [cls_append, List.length_append]
    exact hown
  · rcases hat with e | e
    · rw [e]; exact h.ne
    · right
      rw [e]
      intro e2
      have := (World.ownsRow.lt h.b _ e2.symm).2
      omega

/-- Parted: the first k kinds. -/
def pt (q : (Nat → Bool) → Bool) (L : List (Nat → Bool)) (k : Nat) : List (Nat → Bool) := (L.take k).filter q

theorem pt_zero (q : (Nat → Bool) → Bool) (L : List (Nat → Bool)) : pt q L 0 = [] := rfl

theorem pt_yes {q : (Nat → Bool) → Bool} {L : List (Nat → Bool)} {k : Nat} (h : k < L.length) (hq : q (at' L k) = true) : pt q L (k + 1) = pt q L k ++ [at' L k] := by
  unfold pt
  rw [List.take_succ_eq_append_getElem h, List.filter_append, at_get h]
  rw [at_get h] at hq
  simp [hq]

theorem pt_no {q : (Nat → Bool) → Bool} {L : List (Nat → Bool)} {k : Nat} (h : k < L.length) (hq : q (at' L k) = false) : pt q L (k + 1) = pt q L k := by
  unfold pt
  rw [List.take_succ_eq_append_getElem h, List.filter_append]
  rw [at_get h] at hq
  simp [hq]

theorem pt_end (q : (Nat → Bool) → Bool) (L : List (Nat → Bool)) : pt q L L.length = L.filter q := by unfold pt; rw [List.take_length]

theorem pt_len (q : (Nat → Bool) → Bool) (L : List (Nat → Bool)) (k : Nat) : (pt q L k).length ≤ k := Nat.le_trans (List.length_filter_le _ _) (by rw [List.length_take]; omega)

set_option maxRecDepth 100000 in
set_option maxHeartbeats 4000000 in
theorem parts12_any (P : Nat → Nat → Bool) (n cap : Nat) (ao : Option Addr) (K least : Int) (w : World) (hl : Lf w ao n P) :
    Calls Tryd.prog 10 #[.agg #[.slice ao n cap, .int .i64 K], .int .i64 least] w fun e w' =>
      (∃ fo fd ro rd, e = .returned (.tuple #[.slice fo (fks P n least).length fd, .slice ro (rks P n least).length rd]) ∧ Lf w' fo (fks P n least).length (at' (fks P n least)) ∧ Lf w' ro (rks P n least).length (at' (rks P n least))) ∧ Below w.heap.size w w' := by
  obtain ⟨w1, b1⟩ := lbox w (.slice ao n cap) (.int .i64 K)
  have E1 : Hid _ := b1.eq
  have B1 : Hid (Below w.heap.size w w1) := b1.bel
  have s1 : w.heap.size < w1.heap.size := by have := b1.size; omega
  have HC : Hid (w1.cell? ⟨w.heap.size, 0, none⟩ = some (.slice ao n cap) ∧ w1.cell? ⟨w.heap.size, 1, none⟩ = some (.int .i64 K)) := ⟨b1.c0, b1.c1⟩
  have c0 := HC.out.1
  have c1 := HC.out.2
  have HL : Hid (Lf w1 ao n P) := hl.grow b1.bel
  have ca : Hid _ := apart_any P n cap ao K least w1 HL.out
  have hn := hl.small
  have hq := kd_len P n
  have HF : Hid (fks P n least = pt (frq P n least) (kd P n) (kd P n).length) := (pt_end _ _).symm
  have HR : Hid (rks P n least = pt (fun c => !frq P n least c) (kd P n) (kd P n).length) := (pt_end _ _).symm
  obtain ⟨i0, hi, hz0, hz1, hz2⟩ := infoC
  clear b1 hl
  go_enter Tryd.func10, Tryd.ntmps10
  go_wp2_with (first | rw [← E1.out])
  refine Calls.mono (Hid.out ca) ?_; rintro e w2 ⟨⟨ob, lb, rfl, ap2⟩, b2⟩
  have B12 : Hid (Below w1.heap.size w1 w2) := b2
  have HA2 : Hid (Apt w2 ob lb P n least) := ap2
  obtain ⟨d0, d1⟩ := two_below HC.out b2 s1
  have ck : Hid _ := kinds_any P n cap ao K w2 (HL.out.grow b2)
  clear b2 ca c0 c1 E1 ap2
  go_wp2_with fail
  refine Calls.mono (Hid.out ck) ?_; rintro e w3 ⟨⟨ko, kd', rfl, l3⟩, b3⟩
  have HA3 : Hid (Apt w3 ob lb P n least) := HA2.out.grow b3
  have B3 : Hid (Below w.heap.size w w3) := B1.out.trans ((B12.out.trans (b3.mono B12.out.size)).mono B1.out.size)
  have HL3 : Hid (Lf w3 ko (kd P n).length (at' (kd P n))) := l3
  clear b3 ck d0 d1 l3 HA2
  generalize kd P n = L at *
  obtain ⟨q, hqL⟩ : ∃ q, L.length = q := ⟨_, rfl⟩
  rw [hqL] at hq HL3 HF HR ⊢
  go_wp2_with fail
  go_loopw [7, 8, 17] (fun vf vr vk wr => Below w3.heap.size w3 wr ∧ ∃ k : Nat, k ≤ q ∧ vk = .int .i64 k ∧ TwoC wr w3.heap.size vf vr (pt (frq P n least) L k) (pt (fun c => !frq P n least c) L k)) (fun _ _ vk _ => q - (intOf vk).toNat)
  case atStart => exact ⟨Below.refl _ _, 0, Nat.zero_le _, rfl, ownC_nil _ _, ownC_nil _ _, .inl rfl⟩
  case round =>
    obtain ⟨hbel, k, hk, rfl, htwo⟩ := hrel
    have HB : Hid _ := hbel
    have hs3 : w3.heap.size ≤ wr.heap.size := hbel.size
    by_cases hkq : k < q
    · obtain ⟨b, o, rfl, hb, hC⟩ := (HL3.out.grow hbel).lies (by omega)
      obtain ⟨c0, c1, c2, c3⟩ := hC.four hkq
      have hkI : (k : Int) < (q : Int) := by omega
      obtain ⟨w5, b5⟩ := box wr (at' L k)
      have E5 : Hid _ := b5.eq
      have B5 : Hid (Below w3.heap.size w3 w5) := hbel.trans (b5.bel.mono hs3)
      have F5 : Hid (Fam w5 wr.heap.size 0 4 (wi (at' L k))) := b5.fam
      have s5 : wr.heap.size < w5.heap.size := by have := b5.size; omega
      have T5 : Hid (TwoC w5 w3.heap.size u7 u8 (pt (frq P n least) L k) (pt (fun c => !frq P n least c) L k)) := htwo.below b5.bel (Nat.le_refl _)
      obtain ⟨e0, e1, e2, e3⟩ := c4 b5.fam
      have cl : Hid _ := apart1_any P n least (at' L k) ob lb w5 (HA3.out.grow B5.out)
      have hkL : k < L.length := by omega
      have hy : Hid _ := fun h => pt_yes (q := frq P n least) hkL h
      have hno : Hid _ := fun h => pt_no (q := frq P n least) hkL h
      have ry : Hid _ := fun h => pt_yes (q := fun c => !frq P n least c) hkL h
      have rno : Hid _ := fun h => pt_no (q := fun c => !frq P n least c) hkL h
      have hl1 := pt_len (frq P n least) L k
      have hl2 := pt_len (fun c => !frq P n least c) L k
      clear hC b5 htwo hbel
      generalize at' L k = x at *
      cases hx : frq P n least x with
      | true =>
        rw [hx] at cl
        have HY : Hid _ := hy.out hx
        have HN : Hid _ := rno.out (by rw [hx]; rfl)
        clear hx hy hno ry rno
        go_wp2_with (first | rw [← E5.out])
        refine Calls.mono (Hid.out cl) ?_; rintro e w6 ⟨rfl, b6⟩
        have B6 : Hid (Below w3.heap.size w3 w6) := B5.out.trans (b6.mono B5.out.size)
        have T6 : Hid (TwoC w6 w3.heap.size u7 u8 (pt (frq P n least) L k) (pt (fun c => !frq P n least c) L k)) := T5.out.below b6 (Nat.le_refl _)
        obtain ⟨g0, g1, g2, g3⟩ := c4 (Fam.below F5.out b6 s5)
        clear b6 cl e0 e1 e2 e3 c0 c1 c2 c3
        go_wp2_with (first | (at_builtin; refine wpList_append_own_at _ rfl _ _ 22 rfl w3.heap.size 51 i0 (.agg #[.int .u64 0, .int .u64 0, .int .u64 0, .int .u64 0]) 4 32 Tryd.underlying22 hi hz0 hz1 hz2 rfl (by decide) _ _ _ rfl (World.ownsRow.alloc T6.out.a _) ⟨w6.heap.size, 0, none⟩ 1 1 (cls [x]) rfl rfl ?c1 ?c2 ?c3 ?c4 ?c5 ?_))
        case c1 => exact new4 _ _
        case c2 => exact plain4 _
        case c3 => unfold maxLen; omega
        case c4 => omega
        case c5 => have := B6.out.size; rw [World.size_alloc]; omega
        · intro v' w7 hown' hgrow _ hat
          have T7 : Hid (TwoC w7 w3.heap.size v' u8 (pt (frq P n least) L (k + 1)) (pt (fun c => !frq P n least c) L (k + 1))) := by
            show TwoC _ _ _ _ _ _
            rw [HY.out, HN.out]
            exact T6.out.step _ hown' hgrow hat
          have B7 : Hid (Below w3.heap.size w3 w7) := grow_below B6.out.size B6.out T6.out.a hgrow
          clear hown' hgrow hat g0 g1 g2 g3
          go_wp2_with fail
          go_roundw
          case rel => exact ⟨B7.out, k + 1, by omega, by go_num, T7.out⟩
          case measure => simp [intOf]; omega
      | false =>
        rw [hx] at cl
        have HY : Hid _ := ry.out (by rw [hx]; rfl)
        have HN : Hid _ := hno.out hx
        clear hx hy hno ry rno
        go_wp2_with (first | rw [← E5.out])
        refine Calls.mono (Hid.out cl) ?_; rintro e w6 ⟨rfl, b6⟩
        have B6 : Hid (Below w3.heap.size w3 w6) := B5.out.trans (b6.mono B5.out.size)
        have T6 : Hid (TwoC w6 w3.heap.size u7 u8 (pt (frq P n least) L k) (pt (fun c => !frq P n least c) L k)) := T5.out.below b6 (Nat.le_refl _)
        obtain ⟨g0, g1, g2, g3⟩ := c4 (Fam.below F5.out b6 s5)
        clear b6 cl e0 e1 e2 e3 c0 c1 c2 c3
        go_wp2_with (first | (at_builtin; refine wpList_append_own_at _ rfl _ _ 22 rfl w3.heap.size 51 i0 (.agg #[.int .u64 0, .int .u64 0, .int .u64 0, .int .u64 0]) 4 32 Tryd.underlying22 hi hz0 hz1 hz2 rfl (by decide) _ _ _ rfl (World.ownsRow.alloc T6.out.b _) ⟨w6.heap.size, 0, none⟩ 1 1 (cls [x]) rfl rfl ?c1 ?c2 ?c3 ?c4 ?c5 ?_))
        case c1 => exact new4 _ _
        case c2 => exact plain4 _
        case c3 => unfold maxLen; omega
        case c4 => omega
        case c5 => have := B6.out.size; rw [World.size_alloc]; omega
        · intro v' w7 hown' hgrow _ hat
          have T7 : Hid (TwoC w7 w3.heap.size u7 v' (pt (frq P n least) L (k + 1)) (pt (fun c => !frq P n least c) L (k + 1))) := by
            show TwoC _ _ _ _ _ _
            rw [HY.out, HN.out]
            exact (T6.out.symm.step _ hown' hgrow hat).symm
          have B7 : Hid (Below w3.heap.size w3 w7) := grow_below B6.out.size B6.out T6.out.b hgrow
          clear hown' hgrow hat g0 g1 g2 g3
          go_wp2_with fail
          go_roundw
          case rel => exact ⟨B7.out, k + 1, by omega, by go_num, T7.out⟩
          case measure => simp [intOf]; omega
    · obtain rfl : k = q := by omega
      have hlf := htwo.a
      have hlr := htwo.b
      rw [← HF.out] at hlf
      rw [← HR.out] at hlr
      have hfl : (fks P n least).length ≤ n := fks_len P n least
      have hrl : (rks P n least).length ≤ n := rks_len P n least
      obtain ⟨fo, fd, rfl, lf⟩ := ownC_lf hlf (by omega)
      obtain ⟨ro, rd, rfl, lr⟩ := ownC_lf hlr (by omega)
      have HLF : Hid _ := lf
      have HLR : Hid _ := lr
      have BR : Hid (Below w.heap.size w wr) := B3.out.trans (hbel.mono B3.out.size)
      clear hlf hlr lf lr htwo hbel
      go_wp2_with fail
      refine bodyPost_ret (results_tmp2 (by rfl) _ _ _) rfl ?_
      exact ⟨⟨fo, fd, ro, rd, rfl, HLF.out, HLR.out⟩, BR.out⟩

end Cls

end Go.Proofs.YtlogdjhnhnfbkaaDoor

namespace Go.Proofs.YtlogdjhnhnfbkaaDoor
open Go.RowKit Go.Maps
namespace Cls

/-- A row as it is read. -/
def gnum : DataW Unit → Int
  | .lit (.int _ z) => z
  | _ => 0

def gl : DataW Unit → List Int
  | .slice ds _ => ds.map gnum
  | _ => []

theorem gl_row {w : World} {base : Nat} {e : TypeId} {v : Value} {zs : List Int} (h : w.ownsInts base e .i64 v zs) : gl (rowDatum .i64 v zs) = zs := by
  have e2 : (Go.ChangeShapes.lits (H := Unit) .i64 zs).map gnum = zs := by
    unfold Go.ChangeShapes.lits
    rw [List.map_map]
    conv => rhs; rw [← List.map_id zs]
    rfl
  rcases World.ownsInts.datum (H := Unit) h with ⟨e, e1⟩ | e
  · rw [e, e1]; rfl
  · rw [e]
    exact e2

/-- A map of rows of places in block b, the rows behind it. -/
def GOwn (w : World) (b n : Nat) (D : DataW Unit) : Prop := w.ownsGroups Tryd.prog 5 (b + 1) 3 .i64 b n D

theorem gown_isMap {w : World} {b n : Nat} {D : DataW Unit} (h : GOwn w b n D) : IsMap D := by
  obtain ⟨es, clock, _, _, _, hD, _⟩ := h
  exact ⟨_, hD⟩

theorem gown_lt {w : World} {b n : Nat} {D : DataW Unit} (h : GOwn w b n D) : b < w.heap.size := by
  obtain ⟨es, clock, hb, _⟩ := h
  exact (Array.getElem?_eq_some_iff.1 hb).1

theorem below_grown {w w' : World} {C : Nat} (h : Below C w w') (hC : w.heap.size ≤ C) : w.grownBy w' none := ⟨h.os, h.tape, h.output, h.size, fun i hi _ => h.block i (by omega)⟩

theorem gown_below {w w' : World} {b n C : Nat} {D : DataW Unit} (h : GOwn w b n D) (hb : Below C w w') (hC : w.heap.size ≤ C) : GOwn w' b n D :=
  World.ownsGroups.kept h (below_grown hb hC) (by simp) (World.ownsGroups.rowsAbove h (fun j hj => by cases hj))

theorem gown_off {w w' : World} {b n g : Nat} {D : DataW Unit} (h : GOwn w b n D) (hf : w.grownBy w' (some g)) (hg : g < b) : GOwn w' b n D :=
  World.ownsGroups.kept h hf (by intro e; cases e; omega) (World.ownsGroups.rowsAbove h (fun j hj => by cases hj; omega))

theorem shuns_below {w w' : World} {b C : Nat} {No : Nat → Prop} (h : w.Shuns b No) (hb : Below C w w') (hC : w.heap.size ≤ C) (hlt : b < w.heap.size) : w'.Shuns b No := World.Shuns.kept h (below_grown hb hC) hlt (by simp)

/-- What the map tells of each byte. -/
def Tel (D : DataW Unit) (Z : Nat → List Nat) : Prop := ∀ x : Nat, x < 256 → gl (D.atKey (.int .u8 (x : Int)) .nil) = (Z x).map fun j : Nat => (j : Int)

theorem tel_none (Z : Nat → List Nat) (h : ∀ x, x < 256 → Z x = []) : Tel (.map []) Z := fun x hx => by rw [h x hx]; rfl

theorem tel_congr {D : DataW Unit} {Z Z' : Nat → List Nat} (h : Tel D Z) (e : ∀ x, x < 256 → Z x = Z' x) : Tel D Z' := fun x hx => by rw [← e x hx]; exact h x hx

theorem tel_put {D : DataW Unit} {Z Z' : Nat → List Nat} (hD : IsMap D) (ht : Tel D Z) {b : Nat} (r : DataW Unit) (h : gl r = (Z' b).map fun j : Nat => (j : Int)) (ho : ∀ x, x ≠ b → Z' x = Z x) : Tel (D.put (.int .u8 (b : Int)) r) Z' := by
  intro x hx
  by_cases e : x = b
  · subst e
    rw [atKey_put_same hD (by trivial)]
    exact h
  · rw [atKey_put_other (by intro e2; injection e2 with _ e2; omega), ho x e]
    exact ht x hx

theorem law8 : Keyed Tryd.prog 5 := int_keyed Tryd.underlying5

theorem zeroL (w : World) : (zeroValue 34).run Tryd.prog w = .ok (.slice none 0 0) w := by kernel_rfl

theorem key8 {b : Nat} (h : b < 256) : keyOf Tryd.prog 5 (.int .u8 (b : Int)) = some (.int .u8 (b : Int)) := keyOf_int_mk Tryd.underlying5 (WalkArith.wf_u8 ⟨by omega, by omega⟩)

/-- A row of the map: where it lies. -/
theorem ints_slice {w : World} {base : Nat} {e : TypeId} {v : Value} {zs : List Int} (h : w.ownsInts base e .i64 v zs) :
    ∃ ao c, v = .slice ao zs.length c ∧ (1 ≤ zs.length → ∃ g, ao = some ⟨g, 0, none⟩ ∧ base ≤ g ∧ g < w.heap.size ∧ ∀ t, (ht : t < zs.length) → w.cell? ⟨g, t, none⟩ = some (.int .i64 zs[t])) := by
  by_cases hn : 1 ≤ zs.length
  · obtain ⟨g, cap, hv, _, hg, hlt, hc, _⟩ := owns_cells h.1 hn
    refine ⟨_, cap, hv, fun _ => ⟨g, rfl, hg, hlt, fun t ht => ?_⟩⟩
    rw [hc t (by omega)]
    simp [ht]
  · obtain ⟨_, ⟨e, e2⟩ | ⟨g', cap, cur, hv, _⟩⟩ := h.1
    · exact ⟨none, 0, by rw [e, e2], fun h => absurd h hn⟩
    · exact ⟨_, _, hv, fun h => absurd h hn⟩

/-- How many more may be there, a byte on. -/
theorem un_next {M : List (Nat × Nat)} {q : Nat} (h : q < M.length) (x : Nat) : (un (M.take q) x || rg M[q].1 (M[q].2 + 1) x) = un (M.take (q + 1)) x := by rw [un_take M q h]

theorem wmd_step {P : Nat → Nat → Bool} {L : List (Nat → Bool)} {j b : Nat} {u u' : Nat → Bool} (h : u b = false) (h' : u' b = true) : wmd P L j u' b = wmd P L j u b ++ [j] := by
  unfold wmd
  rw [h, h', if_pos rfl, if_neg (by decide)]

theorem wmd_same {P : Nat → Nat → Bool} {L : List (Nat → Bool)} {j x : Nat} {u u' : Nat → Bool} (h : u' x = u x) : wmd P L j u' x = wmd P L j u x := by
  unfold wmd
  rw [h]

theorem rg_end (lo b x : Nat) (h : x ≠ b) : rg lo (b + 1) x = rg lo b x := by
  unfold rg
  by_cases h1 : x < b
  · rw [decide_eq_true h1, decide_eq_true (show x < b + 1 by omega)]
  · rw [decide_eq_false h1, decide_eq_false (show ¬ x < b + 1 by omega)]

theorem rg_in (lo b : Nat) (h : lo ≤ b) : rg lo (b + 1) b = true ∧ rg lo b b = false := by
  unfold rg
  rw [decide_eq_true h, decide_eq_true (show b < b + 1 by omega), decide_eq_false (show ¬ b < b by omega)]
  exact ⟨rfl, rfl⟩

theorem infoN12 : (Tryd.prog.info? 3).map (fun i => (i.zero, i.size, i.bytes)) = some (some (.int .i64 0), 1, 8) := by kernel_rfl

set_option maxRecDepth 100000 in
set_option maxHeartbeats 8000000 in
theorem elems12_any (P : Nat → Nat → Bool) (n cap : Nat) (ao : Option Addr) (K : Int) (L : List (Nat → Bool)) (kc : Nat) (ko : Option Addr) (hn : n ≤ 1000000) (w : World) (hl : Lf w ao n P) (hk : Lf w ko L.length (at' L)) :
    Calls Tryd.prog 30 #[.agg #[.slice ao n cap, .int .i64 K], .slice ko L.length kc] w fun e w' =>
      (∃ B N D, e = .returned (.map (some B)) ∧ w.heap.size ≤ B ∧ N ≤ 1000000000 ∧ GOwn w' B N D ∧ Tel D (whb P L n)) ∧ Below w.heap.size w w' := by
  obtain ⟨w1, b1⟩ := lbox w (.slice ao n cap) (.int .i64 K)
  obtain ⟨w2, e2⟩ : ∃ w2, w2 = w1.alloc (.map #[] 0) := ⟨_, rfl⟩
  have b2 : Below w1.heap.size w1 w2 := by rw [e2]; exact (Below.refl _ _).alloc (Nat.le_refl _) _
  have E1 : Hid _ := b1.eq
  have E2 : Hid _ := e2
  have s1 : w.heap.size < w1.heap.size := by have := b1.size; omega
  have HC : Hid (w2.cell? ⟨w.heap.size, 0, none⟩ = some (.slice ao n cap) ∧ w2.cell? ⟨w.heap.size, 1, none⟩ = some (.int .i64 K)) := two_below ⟨b1.c0, b1.c1⟩ b2 s1
  have d0 := HC.out.1
  have HL : Hid (Lf w1 ao n P) := hl.grow b1.bel
  have HK : Hid (Lf w1 ko L.length (at' L)) := hk.grow b1.bel
  have B12 : Hid (Below w1.heap.size w1 w2) := b2
  have B1 : Hid (Below w.heap.size w w1) := b1.bel
  have HM : Hid (GOwn w2 w1.heap.size 0 (.map [])) := by
    show World.ownsGroups _ _ _ _ _ _ _ _ _
    rw [e2]
    exact World.ownsGroups_made _ _ _ _ _
  have s2 : w2.heap.size = w1.heap.size + 1 := by rw [e2, World.size_alloc]
  have HS : Hid (w.heap.size + 1 = w1.heap.size ∧ w1.heap.size + 1 = w2.heap.size) := ⟨b1.size.symm, s2.symm⟩
  have hmm := @run_makeMap Tryd.prog
  obtain ⟨i0, hi, hz0, hz1, hz2⟩ := info_parts infoN12
  clear b1 b2 hl hk e2 s2
  go_enter Tryd.func30, Tryd.ntmps30
  go_wp2_with (first | rw [← E1.out, ← E2.out, HS.out.1])
  clear E1 E2 d0 hmm
  go_loopw [15] (fun vk wr => Below w1.heap.size w1 wr ∧ w2.heap.size ≤ wr.heap.size ∧ ∃ k : Nat, k ≤ n ∧ vk = .int .i64 k ∧ ∃ N D, N ≤ 256 * k ∧ GOwn wr w1.heap.size N D ∧ Tel D (whb P L k)) (fun vk _ => n - (intOf vk).toNat)
  case atStart => exact ⟨B12.out, Nat.le_refl _, 0, Nat.zero_le _, rfl, 0, _, Nat.le_refl _, HM.out, tel_none _ (fun _ _ => rfl)⟩
  case round =>
    obtain ⟨hbel, hs, k, hk, rfl, N, D, hN, hown, htel⟩ := hrel
    have HB : Hid _ := hbel
    have HO : Hid (GOwn wr w1.heap.size N D) := hown
    have HT : Hid (Tel D (whb P L k)) := htel
    by_cases hkn : k < n
    · obtain ⟨b, o, rfl, hb, hC⟩ := (HL.out.grow hbel).lies (by omega)
      obtain ⟨c0, c1, c2, c3⟩ := hC.four hkn
      have hkI : (k : Int) < (n : Int) := by omega
      obtain ⟨w5, b5⟩ := box wr (P k)
      have E5 : Hid _ := b5.eq
      have B5 : Hid (Below w1.heap.size w1 w5) := hbel.trans (b5.bel.mono hbel.size)
      have O5 : Hid (GOwn w5 w1.heap.size N D) := gown_below hown b5.bel (Nat.le_refl _)
      have F5 : Hid (Fam w5 wr.heap.size 0 4 (wi (P k))) := b5.fam
      have s5 : wr.heap.size < w5.heap.size ∧ w2.heap.size ≤ w5.heap.size := by have := b5.size; omega
      obtain ⟨e0, e1, e2, e3⟩ := c4 b5.fam
      have cc : Hid _ := contains_core (at' L) (P k) L.length kc ko w5 (HK.out.grow B5.out) (amg L (P k)) (amg_at L (P k)).symm
      clear hC b5 hown htel hbel HO
      cases ha : amg L (P k) with
      | false =>
        rw [ha] at cc
        have HW : Hid _ := whb_not ha
        clear ha
        go_wp2_with (first | rw [← E5.out])
        refine Calls.mono (Hid.out cc) ?_; rintro e w6 ⟨rfl, b6⟩
        have B6 : Hid (Below w1.heap.size w1 w6) := B5.out.trans (b6.mono B5.out.size)
        have O6 : Hid (GOwn w6 w1.heap.size N D) := gown_below O5.out b6 (Nat.le_refl _)
        have s6 : w2.heap.size ≤ w6.heap.size := by have := b6.size; omega
        clear b6 cc e0 e1 e2 e3 c0 c1 c2 c3
        go_wp2_with fail
        go_roundw
        case rel => exact ⟨B6.out, s6, k + 1, by omega, by go_num, N, D, by omega, O6.out, tel_congr HT.out (fun x _ => (HW.out x).symm)⟩
        case measure => simp [intOf]; omega
      | true =>
        rw [ha] at cc
        have HA : Hid (amg L (P k) = true) := ha
        clear ha
        go_wp2_with (first | rw [← E5.out])
        refine Calls.mono (Hid.out cc) ?_; rintro e w6 ⟨rfl, b6⟩
        have B6 : Hid (Below w1.heap.size w1 w6) := B5.out.trans (b6.mono B5.out.size)
        have O6 : Hid (GOwn w6 w1.heap.size N D) := gown_below O5.out b6 (Nat.le_refl _)
        have s6 : w2.heap.size ≤ w6.heap.size := by have := b6.size; omega
        have F6 : Hid (Fam w6 wr.heap.size 0 4 (wi (P k))) := Fam.below F5.out b6 s5.1
        have cr : Hid _ := runs_any (P k) w6
        clear b6 cc e0 e1 e2 e3 c0 c1 c2 c3 O5
        obtain ⟨e0, e1, e2, e3⟩ := c4 F6.out
        go_wp2_with fail
        refine Calls.mono (Hid.out cr) ?_; rintro e w7 ⟨v, rfl, p7, b7⟩
        have B7 : Hid (Below w1.heap.size w1 w7) := B6.out.trans (b7.mono B6.out.size)
        have O7 : Hid (GOwn w7 w1.heap.size N D) := gown_below O6.out b7 (Nat.le_refl _)
        have s7 : w6.heap.size ≤ w7.heap.size := b7.size
        have HAP : Hid ((rr (P k) 256).Pairwise fun p q => p.2 < q.1) := rr_apart (P k) 256
        have HLT : Hid (∀ x, x ∈ rr (P k) 256 → x.1 ≤ x.2 ∧ x.2 < 256) := rr_lt (P k) 256
        have HUB : Hid (∀ q x, (h : q < (rr (P k) 256).length) → (rr (P k) 256)[q].1 ≤ x → un ((rr (P k) 256).take q) x = false) := fun q x h hx => un_before (P k) 256 h hx
        have HUE : Hid (∀ x, x < 256 → un (rr (P k) 256) x = P k x) := fun x hx => by rw [un_rr, decide_eq_true hx, Bool.true_and]
        have hSh : w7.Shuns w1.heap.size (fun j => Value.ownBlock v = some j) := by
          have h0 : w6.Shuns w1.heap.size (fun _ => False) := fun _ _ _ _ _ _ _ h => h
          refine shuns_below (World.Shuns.reno h0 O6.out (fun g hg => Or.inr ?_)) b7 (Nat.le_refl _) (gown_lt O6.out)
          exact (World.ownsRow.lt p7 g hg).1
        obtain ⟨ro, rc, rfl⟩ := ownP_slice p7
        have P7 : Hid (OwnP w7 w6.heap.size (.slice ro (rr (P k) 256).length rc) (rr (P k) 256)) := p7
        have SH7 : Hid (w7.Shuns w1.heap.size (fun j => Value.ownBlock (.slice ro (rr (P k) 256).length rc) = some j)) := hSh
        clear cr p7 b7 hSh e0 e1 e2 e3 O6
        have hM256 : (rr (P k) 256).length ≤ 256 := rr_len (P k) 256
        generalize rr (P k) 256 = M at *
        go_wp2_with fail
        go_loopw [27] (fun vq wq => Below w1.heap.size w1 wq ∧ w7.heap.size ≤ wq.heap.size ∧ OwnP wq w6.heap.size (.slice ro M.length rc) M ∧ wq.Shuns w1.heap.size (fun j => Value.ownBlock (.slice ro M.length rc) = some j) ∧ ∃ q : Nat, q ≤ M.length ∧ vq = .int .i64 q ∧ ∃ m N D, m ≤ 256 ∧ N ≤ 256 * k + m ∧ (∀ h : q < M.length, m ≤ M[q].1) ∧ GOwn wq w1.heap.size N D ∧ Tel D (wmd P L k (un (M.take q)))) (fun vq _ => M.length - (intOf vq).toNat)
        case atStart => exact ⟨B7.out, Nat.le_refl _, P7.out, SH7.out, 0, Nat.zero_le _, rfl, 0, N, D, Nat.zero_le _, hN, fun _ => Nat.zero_le _, O7.out, tel_congr HT.out (fun x _ => by rw [List.take_zero]; rfl)⟩
        case round =>
          rename World => wq
          obtain ⟨hbq, hsq, hpq, hshq, q, hq, rfl, m, N, D, hm, hN, hmq, hown, htel⟩ := hrel
          have HB : Hid (Below w1.heap.size w1 wq) := hbq
          have HO : Hid (GOwn wq w1.heap.size N D) := hown
          have HT : Hid (Tel D (wmd P L k (un (M.take q)))) := htel
          have HP : Hid (OwnP wq w6.heap.size (.slice ro M.length rc) M) := hpq
          have HSH : Hid (wq.Shuns w1.heap.size (fun j => Value.ownBlock (.slice ro M.length rc) = some j)) := hshq
          clear htel HB HO
          by_cases hqM : q < M.length
          · obtain ⟨g, cap2, hv, hgB, hglt, hcs, _⟩ := ownP_mem hpq (by omega)
            obtain ⟨rfl, rfl⟩ : ro = some ⟨g, 0, none⟩ ∧ rc = cap2 := by injection hv with h1 _ h3; exact ⟨h1, h3⟩
            obtain ⟨r0, r1⟩ := hcs q hqM
            have r0 : wq.cell? ⟨g, q * 2, none⟩ = some (.int .u8 (M[q].1 : Int)) := by rw [Nat.mul_comm]; exact r0
            have r1 : wq.cell? ⟨g, q * 2 + 1, none⟩ = some (.int .u8 (M[q].2 : Int)) := by rw [Nat.mul_comm]; exact r1
            have hlohi := HLT.out M[q] (List.getElem_mem hqM)
            have hmlo := hmq hqM
            have HUQ : Hid (∀ x, M[q].1 ≤ x → un (M.take q) x = false) := fun x hx => HUB.out q x hqM hx
            have HUN : Hid (∀ x, (un (M.take q) x || rg M[q].1 (M[q].2 + 1) x) = un (M.take (q + 1)) x) := fun x => un_next hqM x
            have HNX : Hid (∀ h : q + 1 < M.length, M[q].2 + 1 ≤ M[q + 1].1) := fun h => List.pairwise_iff_getElem.1 HAP.out q (q + 1) hqM h (by omega)
            have hqI : (q : Int) < (M.length : Int) := by omega
            obtain ⟨lo, hlo⟩ : ∃ lo, M[q].1 = lo := ⟨_, rfl⟩
            obtain ⟨hi', hhi⟩ : ∃ hi', M[q].2 = hi' := ⟨_, rfl⟩
            rw [hlo] at r0 hlohi hmlo HUQ HUN
            rw [hhi] at r1 hlohi HUN HNX
            obtain ⟨w8, e8⟩ : ∃ w8, w8 = wq.alloc (.cells #[.int .u8 (lo : Int), .int .u8 (hi' : Int)] 76) := ⟨_, rfl⟩
            have E8 : Hid _ := e8
            have b8 : Below wq.heap.size wq w8 := by rw [e8]; exact (Below.refl _ _).alloc (Nat.le_refl _) _
            have z8 : w8.heap.size = wq.heap.size + 1 := by rw [e8, World.size_alloc]
            have B8 : Hid (Below w1.heap.size w1 w8) := hbq.trans (b8.mono hbq.size)
            have O8 : Hid (GOwn w8 w1.heap.size N D) := gown_below hown b8 (Nat.le_refl _)
            have P8 : Hid (OwnP w8 w6.heap.size (.slice (some ⟨g, 0, none⟩) M.length rc) M) := owns_below hpq b8 (Nat.le_refl _)
            have k8 : Hid (w8.cell? ⟨wq.heap.size, 0, none⟩ = some (.int .u8 (lo : Int)) ∧ w8.cell? ⟨wq.heap.size, 1, none⟩ = some (.int .u8 (hi' : Int))) := by rw [e8]; exact ⟨cell_box0 _ _ _ _, cell_box1 _ _ _ _⟩
            have SH8 : Hid (w8.Shuns w1.heap.size (fun j => j = g ∨ j = wq.heap.size)) := by
              refine shuns_below (World.Shuns.reno hshq hown (fun j hj => ?_)) b8 (Nat.le_refl _) (gown_lt hown)
              rcases hj with rfl | rfl
              · exact Or.inl rfl
              · exact Or.inr (Nat.le_refl _)
            have kk := k8.out.1
            have hs8 : w1.heap.size < g ∧ w1.heap.size < wq.heap.size ∧ g < wq.heap.size ∧ w8.heap.size = wq.heap.size + 1 ∧ w2.heap.size = w1.heap.size + 1 := by have := HS.out.2; omega
            have HS8 : Hid (g < w8.heap.size ∧ wq.heap.size < w8.heap.size) := ⟨by omega, by omega⟩
            clear hbq hpq hshq hown b8 e8 HP HSH hv hcs hmq hlo hhi SH7 P7
            go_wp2_with (first | rw [← E8.out])
            clear r0 r1 kk E8
            go_loopw [10] (fun vb wb => Fr (fun j => j < w1.heap.size ∨ j = g ∨ j = wq.heap.size) w8 wb ∧ wb.Shuns w1.heap.size (fun j => j = g ∨ j = wq.heap.size) ∧ ∃ b : Nat, lo ≤ b ∧ b ≤ hi' + 1 ∧ vb = .int .i64 b ∧ ∃ N D, N ≤ 256 * k + b ∧ GOwn wb w1.heap.size N D ∧ Tel D (wmd P L k (fun x => un (M.take q) x || rg lo b x))) (fun vb _ => hi' + 1 - (intOf vb).toNat)
            case atStart => exact ⟨Fr.refl _ _, SH8.out, lo, Nat.le_refl _, by omega, rfl, N, D, by omega, O8.out, tel_congr HT.out (fun x _ => (wmd_same (by rw [rg_none (Nat.le_refl _), Bool.or_false])).symm)⟩
            case round =>
              rename World => wb
              obtain ⟨hfr, hshb, b, hlb, hbh, rfl, N, D, hN, hown, htel⟩ := hrel
              have HF : Hid (Fr (fun j => j < w1.heap.size ∨ j = g ∨ j = wq.heap.size) w8 wb) := hfr
              have HT : Hid (Tel D (wmd P L k (fun x => un (M.take q) x || rg lo b x))) := htel
              have HSH : Hid (wb.Shuns w1.heap.size (fun j => j = g ∨ j = wq.heap.size)) := hshb
              have hs9 : w8.heap.size ≤ wb.heap.size := hfr.size
              have k1 : wb.cell? ⟨wq.heap.size, 1, none⟩ = some (.int .u8 (hi' : Int)) := (hfr.cell (p := ⟨wq.heap.size, 1, none⟩) (Or.inr (Or.inr rfl)) (by show wq.heap.size < w8.heap.size; omega)).trans k8.out.2
              by_cases hbi : b ≤ hi'
              · have hbI : (b : Int) ≤ (hi' : Int) := by omega
                have hwb : IntKind.u8.wrap (b : Int) = (b : Int) := by rw [IntKind.wrap_u8]; omega
                have hb256 : b < 256 := by omega
                have hNm : N < maxLen := by unfold maxLen; omega
                have HKEY : Hid (keyOf Tryd.prog 5 (.int .u8 (b : Int)) = some (.int .u8 (b : Int))) := key8 hb256
                have hkwf : (Lit.int .i64 (k : Int)).wf = true := WalkArith.wf_i64 (by omega)
                clear hfr htel hshb
                go_wp2_with (first
                  | (at_lookup; refine wpList_lookup_groups_shuns _ rfl _ _ 59 rfl 5 34 3 .i64 law8 Tryd.underlying59 (zeroL _) (w1.heap.size + 1) w1.heap.size N D rfl hown hNm (.int .u8 (b : Int)) (.int .u8 (b : Int)) rfl HKEY.out ?_; intro v zs hat hoi hzl hback hsh)
                  | (at_builtin; refine wpList_append_own_at _ rfl _ _ 34 rfl (w1.heap.size + 1) 3 i0 (.int .i64 0) 1 8 Tryd.underlying34 hi hz0 hz1 hz2 rfl (by decide) _ _ _ rfl (hoi.1.alloc _) ⟨wb.heap.size, 0, none⟩ 1 1 [.int .i64 (k : Int)] rfl rfl (cell_one_new _ _ _) (ints_oneCell .i64 [(k : Int)]) (by unfold maxLen; omega) (by omega) (by rw [World.size_alloc]; omega) ?_; intro v' w9 hown' hgrow hnil hloc)
                  | (at_mapUpdate; refine wpList_mapUpdate_back_shuns _ rfl _ _ _ 59 rfl law8 Tryd.underlying59 HKEY.out hown hNm hoi HSH.out ?hno hback rfl rfl rfl ((World.grownBy_alloc _ _ _).trans hgrow) (hoi.appended hown' hkwf) (by simp; omega) (hloc.imp id (fun h => ⟨_, h, by simp⟩)) ?_; rotate_left 1; intro w10 hown10 hgrow10 hsh10)
                  | go_in)
                · have hall := (World.grownBy_alloc wb _ _).trans hgrow
                  have hF10 : Hid (Fr (fun j => j < w1.heap.size ∨ j = g ∨ j = wq.heap.size) w8 w10) := (HF.out.grown hall (fun j hj hA => by
                      rcases hA with h | h
                      · have := (hoi.1.lt j hj).1; omega
                      · exact hsh _ HSH.out j hj h)).grown hgrow10 (fun j hj hA => by cases hj; omega)
                  have hT10 : Hid (Tel (D.put (.int .u8 (b : Int)) (rowDatum .i64 v' (zs ++ [(k : Int)]))) (wmd P L k (fun x => un (M.take q) x || rg lo (b + 1) x))) := by
                    refine tel_put (gown_isMap hown) HT.out _ ?_ (fun x hx => wmd_same (by rw [rg_end lo b x hx]))
                    have hz : zs = (wmd P L k (fun x => un (M.take q) x || rg lo b x) b).map fun j : Nat => (j : Int) := by rw [← HT.out b hb256, hat, gl_row hoi]
                    have hst : wmd P L k (fun x => un (M.take q) x || rg lo (b + 1) x) b = wmd P L k (fun x => un (M.take q) x || rg lo b x) b ++ [k] := wmd_step (by show (_ || _) = false; rw [HUQ.out b hlb, (rg_in lo b hlb).2]; rfl) (by show (_ || _) = true; rw [(rg_in lo b hlb).1, Bool.or_true])
                    rw [gl_row (hoi.appended hown' hkwf), hst, hz, List.map_append]
                    rfl
                  have hO10 : Hid (GOwn w10 w1.heap.size (N + 1) (D.put (.int .u8 (b : Int)) (rowDatum .i64 v' (zs ++ [(k : Int)])))) := hown10
                  have hS10 : Hid (w10.Shuns w1.heap.size (fun j => j = g ∨ j = wq.heap.size)) := hsh10
                  clear hall hown10 hsh10 hgrow10 hgrow hown' hloc hnil hsh hback hoi hat hzl hown
                  go_roundw
                  case rel => exact ⟨hF10.out, hS10.out, b + 1, by omega, by omega, by go_num, N + 1, _, by omega, hO10.out, hT10.out⟩
                  case measure => simp [intOf]; omega
                case hno =>
                  intro j hj
                  suffices h0 : ¬ (j = g ∨ j = wq.heap.size) from ⟨fun h => h0 (Or.inl h), fun h => h0 (Or.inr h)⟩
                  intro hA
                  rcases hloc with h | h
                  · rw [h] at hj
                    exact hsh _ HSH.out j hj hA
                  · rw [h] at hj
                    have h8 := HS8.out
                    have hj2 : wb.heap.size + 1 = j := by simpa using hj
                    have hA2 : j < w8.heap.size := by
                      rcases hA with hA | hA
                      · rw [hA]; exact h8.1
                      · rw [hA]; exact h8.2
                    omega
              · obtain rfl : b = hi' + 1 := by omega
                have hbI : ¬ ((hi' + 1 : Nat) : Int) ≤ (hi' : Int) := by omega
                have BR : Hid (Below w1.heap.size w1 wb) := B8.out.trans (HF.out.below (by omega) (fun j hj => Or.inl hj))
                have O9 : Hid (GOwn wb w1.heap.size N D) := hown
                have P9 : Hid (OwnP wb w6.heap.size (.slice (some ⟨g, 0, none⟩) M.length rc) M) := by
                  obtain ⟨hl, h | ⟨g', cap', cur, hv, hg', hbk, hc⟩⟩ := P8.out
                  · exact ⟨hl, Or.inl h⟩
                  · refine ⟨hl, Or.inr ⟨g', cap', cur, hv, hg', ?_, hc⟩⟩
                    have e : g = g' := by injection hv with h1; injection h1 with h1; injection h1
                    subst e
                    rw [HF.out.block g (by omega) (Or.inr (Or.inl rfl))]
                    exact hbk
                have SH9 : Hid (wb.Shuns w1.heap.size (fun j => Value.ownBlock (.slice (some ⟨g, 0, none⟩) M.length rc) = some j)) := fun es clock hb x hx j hj hN => HSH.out es clock hb x hx j hj (Or.inl (by injection hN with hN; exact hN.symm))
                have T9 : Hid (Tel D (wmd P L k (un (M.take (q + 1))))) := tel_congr HT.out (fun x _ => wmd_same (HUN.out x))
                have hsz : w7.heap.size ≤ wb.heap.size := by omega
                clear hfr htel hshb hown
                go_wp2_with fail
                go_roundw
                case rel => exact ⟨BR.out, hsz, P9.out, SH9.out, q + 1, by omega, by go_num, hi' + 1, N, D, by omega, by omega, HNX.out, O9.out, T9.out⟩
                case measure => simp [intOf]; omega
          · obtain rfl : q = M.length := by omega
            have hsz : w2.heap.size ≤ wq.heap.size := by omega
            have HT2 : Hid (Tel D (whb P L (k + 1))) := tel_congr HT.out (fun x hx => by rw [List.take_length]; exact wmd_end HA.out (HUE.out x hx))
            have HB : Hid (Below w1.heap.size w1 wq) := hbq
            have HO : Hid (GOwn wq w1.heap.size N D) := hown
            clear hpq hshq hown hbq
            go_wp2_with fail
            go_roundw
            case rel => exact ⟨HB.out, hsz, k + 1, by omega, by go_num, N, D, by omega, HO.out, HT2.out⟩
            case measure => simp [intOf]; omega
    · obtain rfl : k = n := by omega
      have BR : Hid (Below w.heap.size w wr) := B1.out.trans (HB.out.mono B1.out.size)
      clear hown htel hbel
      go_wp2_with fail
      go_ret
      exact ⟨⟨_, N, D, rfl, by omega, by omega, HO.out, HT.out⟩, BR.out⟩

end Cls

end Go.Proofs.YtlogdjhnhnfbkaaDoor

namespace Go.Proofs.YtlogdjhnhnfbkaaDoor
open Go.RowKit Go.Maps
namespace Cls

theorem fr_grown {w w' : World} {g : Nat} (h : Fr (fun j => j ≠ g) w w') : w.grownBy w' (some g) := ⟨h.os, h.tape, h.output, h.size, fun i hi hne => h.block i hi (fun e => hne (by rw [e]))⟩

theorem ata_zero (P : Nat → Nat → Bool) (n : Nat) (K : Int) (s : ByteArray) : ata P n K s 0 = decide (0 < stn P n K s.size) := by
  unfold ata
  by_cases h : 0 < stn P n K s.size
  · rw [decide_eq_true h]; exact decide_eq_true ⟨by omega, by omega⟩
  · rw [decide_eq_false h]; exact decide_eq_false (fun hh => h (by omega))

set_option maxHeartbeats 1000000 in
theorem rare12_no (P : Nat → Nat → Bool) (n cap : Nat) (ao : Option Addr) (K : Int) (s : ByteArray) (kv : Value) (hs : s.size ≤ 1000000) (w : World) (hl : Lf w ao n P) (h0 : stn P n K s.size = 0) :
    Calls Tryd.prog 15 #[.agg #[.slice ao n cap, .int .i64 K], .string s, kv] w fun e w' => e = .returned (.slice none 0 0) ∧ Below w.heap.size w w' := by
  obtain ⟨w1, b1⟩ := lbox w (.slice ao n cap) (.int .i64 K)
  have E1 : Hid _ := b1.eq
  have B1 : Hid (Below w.heap.size w w1) := b1.bel
  have c0 := b1.c0
  have c1 := b1.c1
  have ca : Hid _ := at_any P n cap ao K s 0 hs w1 (hl.grow b1.bel)
  rw [ata_zero, decide_eq_false (by omega)] at ca
  generalize atv P n K s 0 = q at *
  clear b1 hl h0
  go_enter Tryd.func15, Tryd.ntmps15
  go_wp2_with (first | rw [← E1.out])
  refine Calls.mono (Hid.out ca) ?_; rintro e w2 ⟨rfl, b2⟩
  have B2 : Hid (Below w.heap.size w w2) := B1.out.trans (b2.mono B1.out.size)
  clear b2 ca c0 c1 E1
  go_wp2_with fail
  go_ret
  exact ⟨rfl, B2.out⟩

set_option maxRecDepth 100000 in
set_option maxHeartbeats 4000000 in
theorem rare12_yes (P : Nat → Nat → Bool) (n cap : Nat) (ao : Option Addr) (K : Int) (s : ByteArray) (L : List (Nat → Bool)) (kc : Nat) (ko : Option Addr) (hs : s.size ≤ 1000000) (w : World) (hl : Lf w ao n P) (hk : Lf w ko L.length (at' L)) (hr : rgt P n K = true) (hm : n ≤ s.size) :
    Calls Tryd.prog 15 #[.agg #[.slice ao n cap, .int .i64 K], .string s, .slice ko L.length kc] w fun e w' =>
      (∃ g, e = .returned (.slice (some ⟨g, 0, none⟩) (s.size - n + 1) (s.size - n + 1)) ∧ w.heap.size ≤ g ∧ Ri w' g (s.size - n + 1) (fun p => (rre P s p L n : Int))) ∧ Below w.heap.size w w' := by
  obtain ⟨w1, b1⟩ := lbox w (.slice ao n cap) (.int .i64 K)
  have E1 : Hid _ := b1.eq
  have B1 : Hid (Below w.heap.size w w1) := b1.bel
  have s1 : w.heap.size < w1.heap.size := by have := b1.size; omega
  have HC : Hid (w1.cell? ⟨w.heap.size, 0, none⟩ = some (.slice ao n cap) ∧ w1.cell? ⟨w.heap.size, 1, none⟩ = some (.int .i64 K)) := ⟨b1.c0, b1.c1⟩
  have c0 := HC.out.1
  have c1 := HC.out.2
  have HL : Hid (Lf w1 ao n P) := hl.grow b1.bel
  have HK : Hid (Lf w1 ko L.length (at' L)) := hk.grow b1.bel
  have ca : Hid _ := at_any P n cap ao K s 0 hs w1 HL.out
  rw [ata_zero, stn_yes hr hm, decide_eq_true (by omega)] at ca
  generalize atv P n K s 0 = qv at *
  obtain ⟨h1, h64, _, _⟩ := rgt_len hr
  obtain ⟨N, hN⟩ : ∃ N, s.size - n + 1 = N := ⟨_, rfl⟩
  rw [hN]
  have hN1 : 1 ≤ N ∧ N ≤ 1000001 := by omega
  have hw1 : IntKind.i64.wrap ((s.size : Int) - (n : Int)) = (s.size : Int) - (n : Int) := by rw [IntKind.wrap_i64]; omega
  have hNI : (s.size : Int) - (n : Int) + 1 = (N : Int) := by omega
  have hw2 : IntKind.i64.wrap ((s.size : Int) - (n : Int) + 1) = (N : Int) := by rw [hNI, IntKind.wrap_i64]; omega
  have hpN : ∀ p, p < N → p + n ≤ s.size := fun p hp => by omega
  have HPN : Hid _ := hpN
  clear b1 hl hk hr hpN hNI
  go_enter Tryd.func15, Tryd.ntmps15
  go_wp2_with (first | rw [← E1.out])
  refine Calls.mono (Hid.out ca) ?_; rintro e w3 ⟨rfl, b3⟩
  have B3 : Hid (Below w1.heap.size w1 w3) := b3
  obtain ⟨d0, d1⟩ := two_below HC.out b3 s1
  have hmk := makeI N (by omega) w3
  have hri := ri_made w3 N
  have bel : Below w3.heap.size w3 (w3.alloc (.cells (madeCells #[.int .i64 0] N) 3)) := (Below.refl _ _).alloc (Nat.le_refl _) _
  generalize Obj.cells (madeCells #[.int .i64 0] N) 3 = ob at *
  obtain ⟨w4, e4⟩ : ∃ w4, w4 = w3.alloc ob := ⟨_, rfl⟩
  rw [← e4] at hri bel
  have E4 : Hid _ := e4
  have B4 : Hid (Below w1.heap.size w1 w4) := b3.trans (bel.mono b3.size)
  have HG : Hid (w1.heap.size ≤ w3.heap.size ∧ w3.heap.size < w4.heap.size) := ⟨b3.size, hri.lt⟩
  have R4 : Hid (Ri w4 w3.heap.size N (fun _ => 0)) := hri
  obtain ⟨f0, f1⟩ := two_below HC.out B4.out s1
  have ce : Hid _ := elems12_any P n cap ao K L kc ko (by omega) w4 (HL.out.grow B4.out) (HK.out.grow B4.out)
  clear b3 ca c0 c1 E1 hri bel e4
  go_wp2_with (first | rw [← E4.out])
  refine Calls.mono (Hid.out ce) ?_; rintro e w5 ⟨⟨B, Nm, D, rfl, hgB, hNm, hown, htel⟩, b5⟩
  have B5 : Hid (Below w.heap.size w w5) := B1.out.trans ((B4.out.trans (b5.mono B4.out.size)).mono B1.out.size)
  have HO : Hid (GOwn w5 B Nm D) := hown
  have HT : Hid (Tel D (whb P L n)) := htel
  have R5 : Hid (Ri w5 w3.heap.size N (fun _ => 0)) := R4.out.grow b5
  have HNm : Hid (Nm < maxLen) := by show Nm < maxLen; unfold maxLen; omega
  have HGB : Hid (w3.heap.size < B ∧ w.heap.size ≤ w3.heap.size) := ⟨by have := HG.out; omega, by have := HG.out; omega⟩
  clear hown htel b5 ce d0 d1 f0 f1 hmk E4 R4 HC HL HK
  generalize w3.heap.size = g at *
  go_wp2_with fail
  go_loopw [36] (fun vi wr => Fr (fun j => j ≠ g) w5 wr ∧ ∃ i : Nat, i ≤ s.size ∧ vi = .int .i64 i ∧ Ri wr g N (fun p => (kpt P n s L i 0 p : Int))) (fun vi _ => s.size - (intOf vi).toNat)
  case atStart => exact ⟨Fr.refl _ _, 0, Nat.zero_le _, rfl, R5.out.congr (fun p _ => by rw [kpt_start]; rfl)⟩
  case round =>
    obtain ⟨hfr, i, hi, rfl, hR⟩ := hrel
    by_cases his : i < s.size
    · have hiI : (i : Int) < (s.size : Int) := by omega
      have hidx := idx_str s i his
      have hb256 : byt s i < 256 := byt_lt s i
      obtain ⟨v, zs, hrun, hat, hoi, _, _⟩ := World.ownsGroups.at (show GOwn wr B Nm D from gown_off HO.out (fr_grown hfr) HGB.out.1) law8 Tryd.underlying59 (zeroL _) HNm.out (key8 hb256)
      have hzs : zs = (whb P L n (byt s i)).map fun j : Nat => (j : Int) := by rw [← HT.out _ hb256, hat, gl_row hoi]
      obtain ⟨vo, vc, rfl, hcs⟩ := ints_slice hoi
      have HMl : Hid (∀ u, (h : u < (whb P L n (byt s i)).length) → ∀ p, kpt P n s L i (u + 1) p = kpt P n s L i u p + (if p + (whb P L n (byt s i))[u] = i then 1 else 0)) := fun u h p => kpt_step P n s L h p
      have HME : Hid (∀ p, kpt P n s L i (whb P L n (byt s i)).length p = kpt P n s L (i + 1) 0 p) := kpt_next P n s L i
      have HMlt : Hid (∀ u, (h : u < (whb P L n (byt s i)).length) → (whb P L n (byt s i))[u] < n) := fun u h => whb_lt (List.getElem_mem h)
      have hMl := whb_len P L n (byt s i)
      have HF : Hid (Fr (fun j => j ≠ g) w5 wr) := hfr
      have HR : Hid (Ri wr g N (fun p => (kpt P n s L i 0 p : Int))) := hR
      subst hzs
      rw [List.length_map] at hrun
      have HCS : Hid (1 ≤ (whb P L n (byt s i)).length → ∃ g', vo = some ⟨g', 0, none⟩ ∧ g' ≠ g ∧ g' < wr.heap.size ∧ ∀ t, (ht : t < (whb P L n (byt s i)).length) → wr.cell? ⟨g', t, none⟩ = some (.int .i64 ((whb P L n (byt s i))[t] : Int))) := fun h => by
        obtain ⟨g', e1, e2, e3, e4⟩ := hcs (by rw [List.length_map]; exact h)
        have := HGB.out
        exact ⟨g', e1, by omega, e3, fun t ht => by rw [e4 t (by rw [List.length_map]; exact ht), List.getElem_map]⟩
      clear hfr hR hat hoi hcs
      generalize whb P L n (byt s i) = M at *
      generalize byt s i = bt' at *
      go_wp2_with fail
      clear hidx hrun
      go_loopw [45] (fun vu wq => Fr (fun j => j ≠ g) wr wq ∧ ∃ u : Nat, u ≤ M.length ∧ vu = .int .i64 u ∧ Ri wq g N (fun p => (kpt P n s L i u p : Int))) (fun vu _ => M.length - (intOf vu).toNat)
      case atStart => exact ⟨Fr.refl _ _, 0, Nat.zero_le _, rfl, HR.out⟩
      case round =>
        rename World => wq
        obtain ⟨hfq, u, hu, rfl, hR⟩ := hrel
        by_cases huM : u < M.length
        · obtain ⟨g', rfl, hne, hlt, hcs⟩ := HCS.out (by omega)
          have hc : wq.cell? ⟨g', u, none⟩ = some (.int .i64 (M[u] : Int)) := (hfq.cell (p := ⟨g', u, none⟩) hne hlt).trans (hcs u huM)
          have hst := HMl.out u huM
          have hjn := HMlt.out u huM
          have huI : (u : Int) < (M.length : Int) := by omega
          have HFq : Hid (Fr (fun j => j ≠ g) wr wq) := hfq
          have HRq : Hid (Ri wq g N (fun p => (kpt P n s L i u p : Int))) := hR
          obtain ⟨j, hj⟩ : ∃ j, M[u] = j := ⟨_, rfl⟩
          rw [hj] at hc hst hjn
          have HST : Hid (∀ p, kpt P n s L i (u + 1) p = kpt P n s L i u p + (if p + j = i then 1 else 0)) := hst
          have hwp : IntKind.i64.wrap ((i : Int) - (j : Int)) = (i : Int) - (j : Int) := by rw [IntKind.wrap_i64]; omega
          clear hcs hj hst hfq
          by_cases hji : j ≤ i
          · obtain ⟨p, hp⟩ : ∃ p, i - j = p := ⟨_, rfl⟩
            have hpI : (i : Int) - (j : Int) = (p : Int) := by omega
            have hwpp : IntKind.i64.wrap (p : Int) = (p : Int) := by rw [IntKind.wrap_i64]; omega
            have hpj : ∀ x, (x + j = i ↔ x = p) := fun x => by omega
            have HPJ : Hid _ := hpj
            by_cases hpN : p < N
            · have hpNI : (p : Int) < (N : Int) := by omega
              have ck := hR.cell hpN
              have fk := hR.frozen p
              have hkl := kpt_le P n s L i u p
              have hwk : IntKind.i64.wrap ((kpt P n s L i u p : Int) + 1) = (kpt P n s L i u p : Int) + 1 := by rw [IntKind.wrap_i64]; omega
              have HX : Hid (Fr (fun j => j ≠ g) wr (wq.setCell ⟨g, p, none⟩ (.int .i64 ((kpt P n s L i u p : Int) + 1))) ∧ Ri (wq.setCell ⟨g, p, none⟩ (.int .i64 ((kpt P n s L i u p : Int) + 1))) g N (fun x => (kpt P n s L i (u + 1) x : Int))) :=
                ⟨HFq.out.setCell (by simp) _, (hR.put p _).congr (fun x _ => by
                  rw [HST.out x]
                  by_cases e : x = p
                  · subst e; rw [upd_at, if_pos ((HPJ.out x).2 rfl)]; rfl
                  · rw [upd_off e, if_neg (fun h => e ((HPJ.out x).1 h))]; rfl)⟩
              clear hR hkl hpj
              generalize (kpt P n s L i u p : Int) = x at *
              go_wp2_with fail
              go_roundw
              case rel => exact ⟨HX.out.1, u + 1, by omega, by go_num, HX.out.2⟩
              case measure => simp [intOf]; omega
            · have hpNI : ¬ (p : Int) < (N : Int) := by omega
              have HX : Hid (Ri wq g N (fun x => (kpt P n s L i (u + 1) x : Int))) := hR.congr (fun x hx => by
                  rw [HST.out x, if_neg (fun h => by have := (HPJ.out x).1 h; omega)]; rfl)
              clear hR hpj
              go_wp2_with fail
              go_roundw
              case rel => exact ⟨HFq.out, u + 1, by omega, by go_num, HX.out⟩
              case measure => simp [intOf]; omega
          · have hpI : ¬ 0 ≤ (i : Int) - (j : Int) := by omega
            have HX : Hid (Ri wq g N (fun x => (kpt P n s L i (u + 1) x : Int))) := hR.congr (fun x hx => by
                rw [HST.out x, if_neg (by omega)]; rfl)
            clear hR
            go_wp2_with fail
            go_roundw
            case rel => exact ⟨HFq.out, u + 1, by omega, by go_num, HX.out⟩
            case measure => simp [intOf]; omega
        · obtain rfl : u = M.length := by omega
          have HF2 : Hid (Fr (fun j => j ≠ g) w5 wq) := HF.out.trans hfq
          have HR2 : Hid (Ri wq g N (fun p => (kpt P n s L (i + 1) 0 p : Int))) := hR.congr (fun p _ => by rw [HME.out p])
          clear hR hfq
          go_wp2_with fail
          go_roundw
          case rel => exact ⟨HF2.out, i + 1, by omega, by go_num, HR2.out⟩
          case measure => simp [intOf]; omega
    · obtain rfl : i = s.size := by omega
      have HR : Hid (Ri wr g N (fun p => (rre P s p L n : Int))) := hR.congr (fun p hp => by rw [kpt_end (HPN.out p hp)])
      have BR : Hid (Below w.heap.size w wr) := B5.out.trans (hfr.below B5.out.size (fun j hj => by have := HGB.out.2; omega))
      clear hR hfr
      go_wp2_with fail
      go_ret
      exact ⟨⟨g, rfl, HGB.out.2, HR.out⟩, BR.out⟩

end Cls

end Go.Proofs.YtlogdjhnhnfbkaaDoor

namespace Go.Proofs.YtlogdjhnhnfbkaaDoor
open Go.RowKit Go.Maps
namespace Cls

/-- A row of classes that is new, and may be written. -/
def Cn (w w' : World) (bo : Option Addr) (n : Nat) (P : Nat → Nat → Bool) : Prop := 1 ≤ n → ∃ g, bo = some ⟨g, 0, none⟩ ∧ w.heap.size ≤ g ∧ g < w'.heap.size ∧ Cl w' g 0 n P ∧ Wrt w' g 0 (n * 4)

theorem Cn.grow {w w1 w' : World} {bo : Option Addr} {n : Nat} {P : Nat → Nat → Bool} (h : Cn w w1 bo n P) (hb : Below w1.heap.size w1 w') : Cn w w' bo n P := fun hn => by
  obtain ⟨g, e, h1, h2, h3, h4⟩ := h hn
  exact ⟨g, e, h1, Nat.lt_of_lt_of_le h2 hb.size, h3.below hb h2, h4.below hb h2⟩

theorem Cn.from {w0 w w1 : World} {bo : Option Addr} {n : Nat} {P : Nat → Nat → Bool} (h : Cn w w1 bo n P) (hs : w0.heap.size ≤ w.heap.size) : Cn w0 w1 bo n P := fun hn => by
  obtain ⟨g, e, h1, r⟩ := h hn
  exact ⟨g, e, Nat.le_trans hs h1, r⟩

theorem Cn.lf {w w' : World} {bo : Option Addr} {n : Nat} {P : Nat → Nat → Bool} (h : Cn w w' bo n P) (hs : n ≤ 4398046511104) : Lf w' bo n P := ⟨hs, fun hn => by
  obtain ⟨g, e, _, h2, h3, _⟩ := h hn
  exact ⟨g, 0, e, h2, h3⟩⟩

theorem emptyC_own (w : World) : (w.alloc (.cells #[] 51)).ownsRow w.heap.size 51 4 (.slice (some ⟨w.heap.size, 0, none⟩) 0 0) 0 [] := World.ownsRow_lit w #[] 0 (Nat.le_refl _) (by unfold maxLen; omega) rfl

theorem emptyC_grown {w v1 : World} (hg : (w.alloc (.cells #[] 51)).grownBy v1 (Value.ownBlock (.slice (some ⟨w.heap.size, 0, none⟩) 0 0))) : Below w.heap.size w v1 :=
  ((Below.refl w.heap.size w).alloc (Nat.le_refl _) (.cells #[] 51)).grown hg (by show _ ≤ (w.heap.push _).size; simp) (fun k hk => by simp [Value.ownBlock] at hk; omega)

set_option maxHeartbeats 1000000 in
theorem clone12_any (P : Nat → Nat → Bool) (n cap : Nat) (ao : Option Addr) (w : World) (hl : Lf w ao n P) :
    Calls Tryd.prog 57 #[.slice ao n cap] w fun e w' => (∃ bo d, e = .returned (.slice bo n d) ∧ Cn w w' bo n P) ∧ Below w.heap.size w w' := by
  cases ao with
  | none =>
    obtain rfl : n = 0 := by
      rcases Nat.eq_zero_or_pos n with h | h
      · exact h
      · obtain ⟨b, o, e, _⟩ := hl.lies h
        cases e
    have hnil : ∀ w, (binOp .eql 22 (.slice none 0 cap) (.slice none 0 0)).run Tryd.prog w = .ok (.bool true) w := fun w => run_eql_slice_nil w 22 51 _ _ _ Tryd.underlying22
    clear hl
    go_enter Tryd.func57, Tryd.ntmps57
    go_wp2_with fail
    go_ret
    exact ⟨⟨none, 0, rfl, fun h => absurd h (by omega)⟩, Below.refl _ _⟩
  | some x =>
    obtain ⟨i0, hi, hz0, hz1, hz2⟩ := infoC
    have hn := hl.small
    have hown0 := emptyC_own w
    have hlen : (cls (rwl P n)).length = n * 4 := by rw [cls_len, rwl_len]
    have hone : ∀ u ∈ cls (rwl P n), u.oneCell' = true := cls_one (rwl P n)
    have hnews : ∀ j u, (cls (rwl P n))[j]? = some u → (w.alloc (.cells #[] 51)).cell? (x.add j) = some u := by
      intro j u hu
      have hj : j < n * 4 := by
        have := (List.getElem?_eq_some_iff.1 hu).1
        omega
      obtain ⟨b, o, e, hlt, hc⟩ := hl.lies (by omega)
      obtain rfl : x = ⟨b, o, none⟩ := Option.some.inj e
      exact cl_cells (hc.below ((Below.refl _ _).alloc (Nat.le_refl _) _) hlt) j u hu
    have hnil : ∀ w, (binOp .eql 22 (.slice (some x) n cap) (.slice none 0 0)).run Tryd.prog w = .ok (.bool false) w := fun w => run_eql_slice_nil w 22 51 _ _ _ Tryd.underlying22
    clear hl
    go_enter Tryd.func57, Tryd.ntmps57
    go_wp2_with (at_builtin; refine wpList_append_own _ rfl _ _ 22 rfl w.heap.size 51 i0 (.agg #[.int .u64 0, .int .u64 0, .int .u64 0, .int .u64 0]) 4 32 Tryd.underlying22 hi hz0 hz1 hz2 rfl (by decide) _ _ _ rfl hown0 x n cap (cls (rwl P n)) rfl hlen hnews hone (by unfold maxLen; omega) (by omega) (by simp) ?_)
    intro gv w1 hown' hgrow _
    have B1 : Hid _ := emptyC_grown hgrow
    have HO : Hid (∃ bo d, gv = .slice bo n d ∧ Cn w w1 bo n P) := by
      by_cases h1 : 1 ≤ n
      · obtain ⟨g, c, e, _, hg, hlt, hc, hf⟩ := owns_cells hown' h1
        refine ⟨_, c, e, fun _ => ⟨g, rfl, hg, hlt, fun t ht k hk => ?_, fun t _ => hf _⟩⟩
        rw [Nat.zero_add, hc _ (by omega), cls_at _ _ _ (by rw [rwl_len]; exact ht) hk, rwl_at P n t ht]
      · obtain ⟨_, ⟨e, e2⟩ | ⟨g', c, cur, hv, _⟩⟩ := hown'
        · exact ⟨none, 0, by rw [e, e2], fun h => absurd h h1⟩
        · exact ⟨_, _, hv, fun h => absurd h h1⟩
    obtain ⟨bo, d, rfl, hc⟩ := HO.out
    have HC : Hid (Cn w w1 bo n P) := hc
    clear hown' hgrow hnews hown0 hc HO
    go_wp2_with fail
    go_ret
    exact ⟨⟨bo, d, rfl, HC.out⟩, B1.out⟩

/-- The first k freed. -/
def frk (P : Nat → Nat → Bool) (L : List (Nat → Bool)) (k : Nat) : Nat → Nat → Bool := fun t => if t < k then frd P L t else P t

theorem frk_zero (P : Nat → Nat → Bool) (L : List (Nat → Bool)) : frk P L 0 = P := by
  funext t
  unfold frk
  rw [if_neg (by omega)]

theorem frk_at (P : Nat → Nat → Bool) (L : List (Nat → Bool)) (k : Nat) : frk P L k k = P k := if_neg (by omega)

theorem frk_yes {P : Nat → Nat → Bool} {L : List (Nat → Bool)} {k : Nat} (h : amg L (P k) = true) (t : Nat) : (if t = k then (fun _ => true) else frk P L k t) = frk P L (k + 1) t := by
  unfold frk
  by_cases e : t = k
  · subst e; rw [if_pos rfl, if_pos (by omega), frd_yes h]
  · rw [if_neg e]
    by_cases e2 : t < k
    · rw [if_pos e2, if_pos (by omega)]
    · rw [if_neg e2, if_neg (by omega)]

theorem frk_no {P : Nat → Nat → Bool} {L : List (Nat → Bool)} {k : Nat} (h : amg L (P k) = false) : frk P L (k + 1) = frk P L k := by
  funext t
  unfold frk
  by_cases e : t = k
  · subst e; rw [if_pos (by omega), if_neg (by omega), frd_no h]
  · by_cases e2 : t < k
    · rw [if_pos e2, if_pos (by omega)]
    · rw [if_neg e2, if_neg (by omega)]

/-- The other leaf, in its box, its row new. -/
structure Fz (w2 wc : World) (g : Nat) (bo : Option Addr) (d n : Nat) (K : Int) (Q : Nat → Nat → Bool) : Prop where
  le : w2.heap.size ≤ g
  box : Wb wc g (.slice bo n d) (.int .i64 K)
  row : Cn w2 wc bo n Q
  bel : Below w2.heap.size w2 wc
  ne : ∀ g', bo = some ⟨g', 0, none⟩ → 1 ≤ n → g' ≠ g

theorem fz_a {w2 v3 : World} {bo : Option Addr} {d n : Nat} {K : Int} {Q : Nat → Nat → Bool} (hc : Cn w2 v3 bo n Q) (hb : Below w2.heap.size w2 v3) : Fz w2 (v3.alloc (.cells #[.slice bo n d, .int .i64 K] 24)) v3.heap.size bo d n K Q := by
  obtain ⟨v, hv, hr⟩ := Wb.new v3 (.slice bo n d) (.int .i64 K)
  rw [← hv.eq]
  exact ⟨hb.size, hr, hc.grow hv.bel, hb.trans (hv.bel.mono hb.size), fun g' e hn => by
    obtain ⟨g2, e2, _, h2, _⟩ := hc hn
    rw [e] at e2
    injection e2 with e2
    injection e2 with e2
    omega⟩

theorem fz_b {w2 v3 : World} {bo : Option Addr} {d n : Nat} {K : Int} {Q : Nat → Nat → Bool} {o : Obj} {x y : Value} (hc : Cn (w2.alloc o) v3 bo n Q) (hb : Below w2.heap.size w2 v3) (hw : Wb v3 w2.heap.size x y) : Fz w2 ((v3.setCell ⟨w2.heap.size, 0, none⟩ (.slice bo n d)).setCell ⟨w2.heap.size, 1, none⟩ (.int .i64 K)) w2.heap.size bo d n K Q := by
  have hW := put2_wrote (v := v3) (b := w2.heap.size) (.slice bo n d) (.int .i64 K)
  refine ⟨Nat.le_refl _, hw.put _ _, fun hn => ?_, hb.trans (hW.below (fun b' _ e => by omega)), fun g' e hn => ?_⟩
  · obtain ⟨g2, e2, h1, h2, h3, h4⟩ := hc hn
    rw [World.size_alloc] at h1
    refine ⟨g2, e2, by omega, Nat.lt_of_lt_of_eq h2 hW.size.symm, fun t ht k hk => (hW.cell _ _ (by omega)).trans (h3 t ht k hk), hW.wrt h4⟩
  · obtain ⟨g2, e2, h1, _⟩ := hc hn
    rw [World.size_alloc] at h1
    rw [e] at e2
    injection e2 with e2
    injection e2 with e2
    omega

theorem Fz.grow {w2 wc w' : World} {g : Nat} {bo : Option Addr} {d n : Nat} {K : Int} {Q : Nat → Nat → Bool} (h : Fz w2 wc g bo d n K Q) (hb : Below wc.heap.size wc w') : Fz w2 w' g bo d n K Q :=
  ⟨h.le, h.box.grow hb, h.row.grow hb, h.bel.trans (hb.mono h.bel.size), h.ne⟩

theorem Fz.congr {w2 wc : World} {g : Nat} {bo : Option Addr} {d n : Nat} {K : Int} {Q R : Nat → Nat → Bool} (h : Fz w2 wc g bo d n K Q) (e : ∀ t, t < n → Q t = R t) : Fz w2 wc g bo d n K R :=
  ⟨h.le, h.box, fun hn => by obtain ⟨g', e1, h1, h2, h3, h4⟩ := h.row hn; exact ⟨g', e1, h1, h2, h3.congr e, h4⟩, h.bel, h.ne⟩

theorem Fz.put {w2 wc : World} {g g' : Nat} {d n : Nat} {K : Int} {Q : Nat → Nat → Bool} (h : Fz w2 wc g (some ⟨g', 0, none⟩) d n K Q) {k : Nat} (hk : k < n) (f : Nat → Bool) : Fz w2 (put4 wc g' k f) g (some ⟨g', 0, none⟩) d n K (fun t => if t = k then f else Q t) := by
  have hne := h.ne g' rfl (by omega)
  have hW := put4_wrote (v := wc) (b := g') (k := k) f
  obtain ⟨g2, e2, h1, h2, h3, h4⟩ := h.row (by omega)
  obtain rfl : g' = g2 := by injection e2 with e2; injection e2
  refine ⟨h.le, h.box.kept (hW.block g (fun o e => hne e.symm)), fun _ => ⟨g', rfl, h1, Nat.lt_of_lt_of_eq h2 hW.size.symm, put4_cl h3 hk f, put4_wrt h4 f⟩, h.bel.trans (hW.below (fun b' _ e => by omega)), h.ne⟩

set_option maxRecDepth 100000 in
set_option maxHeartbeats 4000000 in
theorem freed12_any (P : Nat → Nat → Bool) (n cap : Nat) (ao : Option Addr) (K : Int) (L : List (Nat → Bool)) (kc : Nat) (ko : Option Addr) (w : World) (hl : Lf w ao n P) (hk : Lf w ko L.length (at' L)) :
    Calls Tryd.prog 38 #[.agg #[.slice ao n cap, .int .i64 K], .slice ko L.length kc] w fun e w' =>
      (∃ bo d, e = .returned (.agg #[.slice bo n d, .int .i64 K]) ∧ Lf w' bo n (frd P L)) ∧ Below w.heap.size w w' := by
  obtain ⟨w1, b1⟩ := lbox w (.slice ao n cap) (.int .i64 K)
  obtain ⟨w2, b2, r2⟩ := Wb.new w1 (.slice none 0 0) (.int .i64 0)
  have E1 : Hid _ := b1.eq
  have E2 : Hid _ := b2.eq
  have z1 := b1.size
  have z2 := b2.size
  have HS : Hid (w.heap.size + 1 = w1.heap.size) := z1.symm
  have HC : Hid (w2.cell? ⟨w.heap.size, 0, none⟩ = some (.slice ao n cap) ∧ w2.cell? ⟨w.heap.size, 1, none⟩ = some (.int .i64 K)) := two_below ⟨b1.c0, b1.c1⟩ b2.bel (by omega)
  have c0 := HC.out.1
  have c1 := HC.out.2
  have B2 : Hid (Below w.heap.size w w2) := b1.bel.trans (b2.bel.mono b1.bel.size)
  have HL : Hid (Lf w2 ao n P) := hl.grow B2.out
  have HK : Hid (Lf w2 ko L.length (at' L)) := hk.grow B2.out
  have HW : Hid (Wb w2 w1.heap.size (.slice none 0 0) (.int .i64 0)) := r2
  have CC : Hid _ := fun v hv => clone12_any P n cap ao v (HL.out.grow hv)
  have CF : Hid _ := fun v => full_any v
  have hn := hl.small
  have hs12 : w.heap.size < w1.heap.size ∧ w1.heap.size < w2.heap.size := by omega
  clear b1 b2 r2 hl hk z1 z2
  go_enter Tryd.func38, Tryd.ntmps38
  go_wp2_with (first | rw [← E1.out, HS.out, ← E2.out] | rw [← E1.out, ← E2.out])
  clear E1 E2
  have HWB : Hid (Wb (w2.alloc (.cells #[.slice none 0 0, .int .i64 0] 24)) w2.heap.size (.slice none 0 0) (.int .i64 0)) := by
    obtain ⟨v, hv, hr⟩ := Wb.new w2 (.slice none 0 0) (.int .i64 0)
    rw [← hv.eq]
    exact hr
  have ne1 : ¬ w.heap.size = w2.heap.size := by omega
  have ne2 : ¬ w2.heap.size = w.heap.size := by omega
  go_cut [5] (fun v5 wc => ∃ (g : Nat) (bo : Option Addr) (d : Nat), v5 = .pointer (some ⟨g, 0, none⟩) ∧ Fz w2 wc g bo d n K P)
  case first =>
    go_region_held3 (fun w' => w'.cell? ⟨w.heap.size, 0, none⟩ = some (.slice ao n cap) ∧ w'.cell? ⟨w.heap.size, 1, none⟩ = some (.int .i64 K)) (go_keep)
      (first
        | (go_at_call 57; (with_reducible refine Calls.mono (CC.out w2.drew (Below.refl _ _).drew) ?_); rintro e v3 ⟨⟨bo, d, rfl, cn⟩, bb⟩; have BX : Hid (Below w2.heap.size w2 v3) := undrew bb; have CN : Hid (Cn w2 v3 bo n P) := cn.from (Nat.le_refl _); obtain ⟨x0, x1⟩ := two_below HC.out BX.out (by omega); clear bb cn)
        | (go_at_call 57; (with_reducible refine Calls.mono (CC.out (w2.alloc (.cells #[.slice none 0 0, .int .i64 0] 24)).drew (((Below.refl _ _).alloc (Nat.le_refl _) _).drew)) ?_); rintro e v3 ⟨⟨bo, d, rfl, cn⟩, bb⟩; have BY : Hid (Below (w2.alloc (.cells #[.slice none 0 0, .int .i64 0] 24)).heap.size (w2.alloc (.cells #[.slice none 0 0, .int .i64 0] 24)) v3) := undrew bb; have CM : Hid (Cn (w2.alloc (.cells #[.slice none 0 0, .int .i64 0] 24)) v3 bo n P) := cn.from (Nat.le_refl _); have BX : Hid (Below w2.heap.size w2 v3) := ((Below.refl w2.heap.size w2).alloc (Nat.le_refl _) _).trans (BY.out.mono (by rw [World.size_alloc]; omega)); obtain ⟨x0, x1⟩ := two_below HC.out BX.out (by omega); have WY : Hid _ := Wb.grow HWB.out BY.out; have y0 := WY.out.c0; have y1 := WY.out.c1; have y2 := WY.out.f0; have y3 := WY.out.f1; clear bb cn))
    all_goals
      go_wp2_with fail
      go_meet
      first
        | exact ⟨_, _, _, rfl, fz_a CN.out BX.out⟩
        | exact ⟨_, _, _, rfl, fz_b CM.out BX.out WY.out⟩
  case rest =>
    obtain ⟨g, bo, d, rfl, hF⟩ := hcut
    have HF : Hid (Fz w2 wc g bo d n K (frk P L 0)) := by show Fz _ _ _ _ _ _ _ _; rw [frk_zero]; exact hF
    have k0 := hF.box.c0
    clear hF CC HL HWB ne1 ne2
    go_wp2_with fail
    clear k0 c0 c1
    go_loopw [17] (fun vk wr => ∃ k : Nat, k ≤ n ∧ vk = .int .i64 k ∧ Fz w2 wr g bo d n K (frk P L k)) (fun vk _ => n - (intOf vk).toNat)
    case atStart => exact ⟨0, Nat.zero_le _, rfl, HF.out⟩
    case round =>
      obtain ⟨k, hk, rfl, hF⟩ := hrel
      by_cases hkn : k < n
      · obtain ⟨gr, rfl, hg1, hg2, hC, hW⟩ := hF.row (by omega)
        obtain ⟨c0, c1, c2, c3⟩ := hC.four hkn
        rw [frk_at, Nat.zero_add] at c0 c1 c2 c3
        have hkI : (k : Int) < (n : Int) := by omega
        obtain ⟨w5, b5⟩ := box wr (P k)
        have E5 : Hid _ := b5.eq
        have F5 : Hid (Fz w2 w5 g (some ⟨gr, 0, none⟩) d n K (frk P L k)) := hF.grow b5.bel
        obtain ⟨e0, e1, e2, e3⟩ := c4 b5.fam
        have cc : Hid _ := contains_core (at' L) (P k) L.length kc ko w5 (HK.out.grow F5.out.bel) (amg L (P k)) (amg_at L (P k)).symm
        clear hC hW b5 hF
        cases ha : amg L (P k) with
        | false =>
          rw [ha] at cc
          have HN : Hid _ := frk_no ha
          clear ha
          go_wp2_with (first | rw [← E5.out])
          refine Calls.mono (Hid.out cc) ?_; rintro e w6 ⟨rfl, b6⟩
          have F6 : Hid (Fz w2 w6 g (some ⟨gr, 0, none⟩) d n K (frk P L (k + 1))) := by show Fz _ _ _ _ _ _ _ _; rw [HN.out]; exact F5.out.grow b6
          clear b6 cc e0 e1 e2 e3 c0 c1 c2 c3
          go_wp2_with fail
          go_roundw
          case rel => exact ⟨k + 1, by omega, by go_num, F6.out⟩
          case measure => simp [intOf]; omega
        | true =>
          rw [ha] at cc
          have HN : Hid _ := frk_yes ha
          clear ha
          go_wp2_with (first | rw [← E5.out])
          refine Calls.mono (Hid.out cc) ?_; rintro e w6 ⟨rfl, b6⟩
          have F6 : Hid (Fz w2 w6 g (some ⟨gr, 0, none⟩) d n K (frk P L k)) := F5.out.grow b6
          have k0 := F6.out.box.c0
          have hgne : gr ≠ g := F6.out.ne gr rfl (by omega)
          have hgne2 : ¬ g = gr := fun e => hgne e.symm
          have hk0 : (0 : Int) ≤ (k : Int) := by omega
          clear b6 cc e0 e1 e2 e3 c0 c1 c2 c3 F5
          go_wp2_with fail
          go_region_held3 (fun w' => w'.cell? ⟨g, 0, none⟩ = some (.slice (some ⟨gr, 0, none⟩) n d)) (go_keep)
            (first | (go_at_call 47; (with_reducible refine Calls.mono (CF.out w6.drew) ?_); rintro e w7 ⟨rfl, b7⟩; have F7 : Hid (Fz w2 w7 g (some ⟨gr, 0, none⟩) d n K (frk P L k)) := F6.out.grow (undrew b7); have k1 := F7.out.box.c0; obtain ⟨g9, e9, hg3, hg4, hC7, hW7⟩ := F7.out.row (by omega); (obtain rfl : gr = g9 := by injection e9 with e9; injection e9); obtain ⟨m0, m1, m2, m3⟩ := hC7.four hkn; rw [Nat.zero_add] at m0 m1 m2 m3; have f0 := Wrt.zero hW7 (k * 4) (by omega); have f1 := Wrt.zero hW7 (k * 4 + 1) (by omega); have f2 := Wrt.zero hW7 (k * 4 + 2) (by omega); have f3 := Wrt.zero hW7 (k * 4 + 3) (by omega); clear b7 hC7 hW7 k0))
          have FP : Hid (Fz w2 (put4 w7 gr k (fun _ => true)) g (some ⟨gr, 0, none⟩) d n K (frk P L (k + 1))) := (F7.out.put hkn (fun _ => true)).congr (fun t _ => HN.out t)
          clear m0 m1 m2 m3 f0 f1 f2 f3 k1
          go_wp2_with fail
          go_roundw
          case rel => exact ⟨k + 1, by omega, by go_num, FP.out⟩
          case measure => simp [intOf]; omega
      · obtain rfl : k = n := by omega
        have hb := hF.box
        have hw := HW.out.grow hF.bel
        have k0 := hb.c0
        have k1 := hb.c1
        have q0 := hw.c0
        have q1 := hw.c1
        have q2 := hw.f0
        have q3 := hw.f1
        have hle := hF.le
        have hne : ¬ g = w1.heap.size := by omega
        have HP : Hid _ := hw.put (.slice bo k d) (.int .i64 K)
        have HWr : Hid _ := put2_wrote (v := wr) (b := w1.heap.size) (.slice bo k d) (.int .i64 K)
        have HR : Hid (Cn w2 wr bo k (frd P L)) := fun h1 => by
          obtain ⟨g', e, h2, h3, h4, h5⟩ := hF.row h1
          exact ⟨g', e, h2, h3, h4.congr (fun t ht => by unfold frk; rw [if_pos ht]), h5⟩
        have BR : Hid (Below w.heap.size w wr) := B2.out.trans (hF.bel.mono B2.out.size)
        clear hF hb hw
        go_wp2_with fail
        refine bodyPost_ret (results_box2 rfl _ (put2 wr w1.heap.size (.slice bo k d) (.int .i64 K)) w1.heap.size _ _ rfl HP.out.c0 HP.out.c1) rfl ?_
        refine ⟨⟨bo, d, rfl, hn, fun h1 => ?_⟩, BR.out.trans (HWr.out.below (fun b' o e => by omega))⟩
        obtain ⟨g', e, h2, h3, h4, _⟩ := HR.out h1
        exact ⟨g', 0, e, Nat.lt_of_lt_of_eq h3 HWr.out.size.symm, fun t ht j hj => (HWr.out.cell _ _ (by omega)).trans (h4 t ht j hj)⟩

end Cls

end Go.Proofs.YtlogdjhnhnfbkaaDoor

namespace Go.Proofs.YtlogdjhnhnfbkaaDoor
open Go.RowKit Go.Maps Res
namespace Cls

/-- A row of N numbers that is new, where there is one. -/
def Cr (w w' : World) (co : Option Addr) (N : Nat) (F : Nat → Int) : Prop := 1 ≤ N → ∃ g, co = some ⟨g, 0, none⟩ ∧ w.heap.size ≤ g ∧ Ri w' g N F

theorem Cr.grow {w w1 w' : World} {co : Option Addr} {N : Nat} {F : Nat → Int} (h : Cr w w1 co N F) (hb : Below w1.heap.size w1 w') : Cr w w' co N F := fun hn => by
  obtain ⟨g, e, h1, h2⟩ := h hn
  exact ⟨g, e, h1, h2.grow hb⟩

theorem Cr.from {w0 w w1 : World} {co : Option Addr} {N : Nat} {F : Nat → Int} (h : Cr w w1 co N F) (hs : w0.heap.size ≤ w.heap.size) : Cr w0 w1 co N F := fun hn => by
  obtain ⟨g, e, h1, r⟩ := h hn
  exact ⟨g, e, Nat.le_trans hs h1, r⟩

theorem Cr.congr {w w1 : World} {co : Option Addr} {N : Nat} {F G : Nat → Int} (h : Cr w w1 co N F) (e : ∀ t, t < N → F t = G t) : Cr w w1 co N G := fun hn => by
  obtain ⟨g, e1, h1, r⟩ := h hn
  exact ⟨g, e1, h1, r.congr e⟩

theorem Cr.is {w w1 : World} {co : Option Addr} {L : List Nat} {F : Nat → Int} (h : Cr w w1 co L.length F) (e : ∀ t, (ht : t < L.length) → F t = ((L[t] : Nat) : Int)) : Is w1 co L := fun hn => by
  obtain ⟨g, e1, h1, r⟩ := h hn
  subst e1
  exact (r.is e) hn

theorem rare12_cap (P : Nat → Nat → Bool) (n cap : Nat) (ao : Option Addr) (K : Int) (s : ByteArray) (L : List (Nat → Bool)) (kc : Nat) (ko : Option Addr) (hs : s.size ≤ 1000000) (w : World) (hl : Lf w ao n P) (hk : Lf w ko L.length (at' L)) :
    Calls Tryd.prog 15 #[.agg #[.slice ao n cap, .int .i64 K], .string s, .slice ko L.length kc] w fun e w' =>
      (∃ co cc, e = .returned (.slice co (stn P n K s.size) cc) ∧ Cr w w' co (stn P n K s.size) (fun p => (rre P s p L n : Int)) ∧ stn P n K s.size ≤ cc) ∧ Below w.heap.size w w' := by
  by_cases h : rgt P n K = true ∧ n ≤ s.size
  · rw [stn_yes h.1 h.2]
    refine Calls.mono (rare12_yes P n cap ao K s L kc ko hs w hl hk h.1 h.2) ?_
    rintro e w' ⟨⟨g, rfl, h1, h2⟩, hb⟩
    exact ⟨⟨_, _, rfl, fun _ => ⟨g, rfl, h1, h2⟩, Nat.le_refl _⟩, hb⟩
  · rw [stn_no h]
    refine Calls.mono (rare12_no P n cap ao K s _ hs w hl (stn_no h)) ?_
    rintro e w' ⟨rfl, hb⟩
    exact ⟨⟨none, 0, rfl, fun h => absurd h (by omega), Nat.le_refl _⟩, hb⟩

theorem rare12_any (P : Nat → Nat → Bool) (n cap : Nat) (ao : Option Addr) (K : Int) (s : ByteArray) (L : List (Nat → Bool)) (kc : Nat) (ko : Option Addr) (hs : s.size ≤ 1000000) (w : World) (hl : Lf w ao n P) (hk : Lf w ko L.length (at' L)) :
    Calls Tryd.prog 15 #[.agg #[.slice ao n cap, .int .i64 K], .string s, .slice ko L.length kc] w fun e w' =>
      (∃ co cc, e = .returned (.slice co (stn P n K s.size) cc) ∧ Cr w w' co (stn P n K s.size) (fun p => (rre P s p L n : Int))) ∧ Below w.heap.size w w' :=
  Calls.mono (rare12_cap P n cap ao K s L kc ko hs w hl hk) (by
    rintro e w' ⟨⟨co, cc, h1, h2, _⟩, hb⟩
    exact ⟨⟨co, cc, h1, h2⟩, hb⟩)

/-- How many of the rare ones are missed. -/
def mrr (P : Nat → Nat → Bool) (n : Nat) (s : ByteArray) (L : List (Nat → Bool)) (p : Nat) : Int := (bnd P n : Int) - (bnd (frd P L) n : Int) - (rre P s p L n : Int)

set_option maxRecDepth 100000 in
set_option maxHeartbeats 4000000 in
theorem misses12_cap (P : Nat → Nat → Bool) (n cap : Nat) (ao : Option Addr) (K : Int) (s : ByteArray) (L : List (Nat → Bool)) (kc : Nat) (ko : Option Addr) (hs : s.size ≤ 1000000) (w : World) (hl : Lf w ao n P) (hk : Lf w ko L.length (at' L)) :
    Calls Tryd.prog 36 #[.agg #[.slice ao n cap, .int .i64 K], .string s, .slice ko L.length kc] w fun e w' =>
      (∃ co cc, e = .returned (.slice co (stn P n K s.size) cc) ∧ Cr w w' co (stn P n K s.size) (mrr P n s L) ∧ stn P n K s.size ≤ cc) ∧ Below w.heap.size w w' := by
  obtain ⟨w1, b1⟩ := lbox w (.slice ao n cap) (.int .i64 K)
  have E1 : Hid _ := b1.eq
  have B1 : Hid (Below w.heap.size w w1) := b1.bel
  have s1 : w.heap.size < w1.heap.size := by have := b1.size; omega
  have HC : Hid (w1.cell? ⟨w.heap.size, 0, none⟩ = some (.slice ao n cap) ∧ w1.cell? ⟨w.heap.size, 1, none⟩ = some (.int .i64 K)) := ⟨b1.c0, b1.c1⟩
  have c0 := HC.out.1
  have c1 := HC.out.2
  have HL : Hid (Lf w1 ao n P) := hl.grow b1.bel
  have HK : Hid (Lf w1 ko L.length (at' L)) := hk.grow b1.bel
  have CB : Hid _ := fun v hv => bound_any P n cap ao K v (HL.out.grow hv)
  have CR : Hid _ := fun v hv => freed12_any P n cap ao K L kc ko v (HL.out.grow hv) (HK.out.grow hv)
  have CB2 : Hid _ := fun v (bo : Option Addr) (d : Nat) hl => bound_any (frd P L) n d bo K v hl
  have CM : Hid _ := fun v hv => rare12_cap P n cap ao K s L kc ko hs v (HL.out.grow hv) (HK.out.grow hv)
  have hn := hl.small
  have hb1 := bnd_le P n
  have hb2 := bnd_frd P L n
  have HMR : Hid (∀ p, mrr P n s L p = (bnd P n : Int) - (bnd (frd P L) n : Int) - (rre P s p L n : Int)) := fun _ => rfl
  have HRL : Hid (∀ p, (rre P s p L n : Int) ≤ n) := fun p => by have := rre_le P s p L n; omega
  have hN := stn_le P n s.size K
  have BX : Hid (Below w1.heap.size w1 w1.drew) := (Below.refl _ _).drew
  obtain ⟨N, hNe⟩ : ∃ N, stn P n K s.size = N := ⟨_, rfl⟩
  rw [hNe] at CM hN ⊢
  clear hNe
  obtain ⟨a1, ha1⟩ : ∃ a1, bnd P n = a1 := ⟨_, rfl⟩
  obtain ⟨a2, ha2⟩ : ∃ a2, bnd (frd P L) n = a2 := ⟨_, rfl⟩
  rw [ha1] at CB hb1 hb2 HMR
  rw [ha2] at CB2 hb2 HMR
  have hwa : IntKind.i64.wrap ((a1 : Int) - (a2 : Int)) = (a1 : Int) - (a2 : Int) := by rw [IntKind.wrap_i64]; omega
  clear b1 hl hk ha1 ha2
  go_enter Tryd.func36, Tryd.ntmps36
  go_wp2_with (first | rw [← E1.out])
  clear E1
  go_cut [7] (fun v7 wc => v7 = .int .i64 ((a1 : Int) - (a2 : Int)) ∧ Below w1.heap.size w1 wc)
  case first =>
    go_region_held3 (fun w' => w'.cell? ⟨w.heap.size, 0, none⟩ = some (.slice ao n cap) ∧ w'.cell? ⟨w.heap.size, 1, none⟩ = some (.int .i64 K)) (go_keep)
      (first
        | (go_at_call 18; (with_reducible refine Calls.mono (CB.out _ BX.out) ?_); rintro e v3 ⟨rfl, b3⟩; have BY : Hid (Below w1.heap.size w1 v3) := BX.out.trans (b3.mono BX.out.size); (try (have LS : Hid (Lf v3 bo n (frd P L)) := LR.out.grow b3; clear LR; have LR : Hid (Lf v3 bo n (frd P L)) := LS.out; clear LS)); clear b3 BX; have BX : Hid (Below w1.heap.size w1 v3) := BY.out; clear BY; obtain ⟨x0, x1⟩ := two_below HC.out BX.out s1)
        | (go_at_call 38; (with_reducible refine Calls.mono (CR.out _ BX.out) ?_); rintro e v3 ⟨⟨bo, d, rfl, lr⟩, b3⟩; have BY : Hid (Below w1.heap.size w1 v3) := BX.out.trans (b3.mono BX.out.size); have LR : Hid (Lf v3 bo n (frd P L)) := lr; clear b3 BX lr; have BX : Hid (Below w1.heap.size w1 v3) := BY.out; clear BY; obtain ⟨x0, x1⟩ := two_below HC.out BX.out s1)
        | (go_at_call 18; (with_reducible refine Calls.mono (CB2.out _ _ _ LR.out) ?_); rintro e v3 ⟨rfl, b3⟩; have BY : Hid (Below w1.heap.size w1 v3) := BX.out.trans (b3.mono BX.out.size); clear b3 BX LR; have BX : Hid (Below w1.heap.size w1 v3) := BY.out; clear BY; obtain ⟨x0, x1⟩ := two_below HC.out BX.out s1))
    all_goals
      go_wp2_with fail
      go_meet
      exact ⟨by first | rfl | rw [hwa], BX.out⟩
  case rest =>
    obtain ⟨rfl, bw⟩ := hcut
    have BW : Hid (Below w1.heap.size w1 wc) := bw
    have cm : Hid _ := CM.out wc bw
    obtain ⟨d0, d1⟩ := two_below HC.out bw s1
    clear bw CB CR CB2 CM c0 c1 BX
    go_wp2_with fail
    refine Calls.mono (Hid.out cm) ?_; rintro e w5 ⟨⟨co, cc, rfl, hc, hcap⟩, b5⟩
    have HCap : Hid (N ≤ cc) := hcap
    clear hcap
    have B5 : Hid (Below w.heap.size w w5) := B1.out.trans ((BW.out.trans (b5.mono BW.out.size)).mono B1.out.size)
    have HR : Hid (Cr w w5 co N (mix 0 (mrr P n s L) (fun p => (rre P s p L n : Int)))) := (hc.from (by have := B1.out.size; have := BW.out.size; omega)).congr (fun t _ => by rw [mix_hi (Nat.zero_le _)])
    clear b5 hc cm d0 d1
    go_wp2_with fail
    go_loopw [24] (fun vk wr => Below w.heap.size w wr ∧ ∃ k : Nat, k ≤ N ∧ vk = .int .i64 k ∧ Cr w wr co N (mix k (mrr P n s L) (fun p => (rre P s p L n : Int)))) (fun vk _ => N - (intOf vk).toNat)
    case atStart => exact ⟨B5.out, 0, Nat.zero_le _, rfl, HR.out⟩
    case round =>
      obtain ⟨hbel, k, hk, rfl, hc⟩ := hrel
      by_cases hkN : k < N
      · obtain ⟨g, rfl, hg, hR⟩ := hc (by omega)
        have ck := hR.cell hkN
        rw [mix_hi (Nat.le_refl _)] at ck
        have fk := hR.frozen k
        have hkI : (k : Int) < (N : Int) := by omega
        have hl := HRL.out k
        have hwk : IntKind.i64.wrap ((a1 : Int) - (a2 : Int) - (rre P s k L n : Int)) = (a1 : Int) - (a2 : Int) - (rre P s k L n : Int) := by rw [IntKind.wrap_i64]; omega
        have HX : Hid (Below w.heap.size w (wr.setCell ⟨g, k, none⟩ (.int .i64 ((a1 : Int) - (a2 : Int) - (rre P s k L n : Int)))) ∧ Cr w (wr.setCell ⟨g, k, none⟩ (.int .i64 ((a1 : Int) - (a2 : Int) - (rre P s k L n : Int)))) (some ⟨g, 0, none⟩) N (mix (k + 1) (mrr P n s L) (fun p => (rre P s p L n : Int)))) :=
          ⟨hbel.setCell (p := ⟨g, k, none⟩) hg _, fun _ => ⟨g, rfl, hg, (hR.put k _).congr (fun t _ => by
            by_cases e : t = k
            · subst e; rw [upd_at, mix_lo (by omega), HMR.out]
            · rw [upd_off e]
              by_cases e2 : t < k
              · rw [mix_lo e2, mix_lo (by omega)]
              · rw [mix_hi (by omega), mix_hi (by omega)])⟩⟩
        clear hR hc hbel hl
        generalize (rre P s k L n : Int) = x at *
        go_wp2_with fail
        go_roundw
        case rel => exact ⟨HX.out.1, k + 1, by omega, by go_num, HX.out.2⟩
        case measure => simp [intOf]; omega
      · obtain rfl : k = N := by omega
        have HB : Hid (Below w.heap.size w wr) := hbel
        have HCr : Hid (Cr w wr co k (mrr P n s L)) := hc.congr (fun t ht => mix_lo ht)
        clear hbel hc
        go_wp2_with fail
        go_ret
        exact ⟨⟨co, cc, rfl, HCr.out, HCap.out⟩, HB.out⟩

end Cls

end Go.Proofs.YtlogdjhnhnfbkaaDoor

namespace Go.Proofs.YtlogdjhnhnfbkaaDoor
open Go.RowKit Go.Maps Res
namespace Cls

theorem sp_slid (P : Nat → Nat → Bool) (n : Nat) (s : ByteArray) (least : Int) (i : Nat) : (mis P s i n : Int) = mrr P n s (rks P n least) i + (mis (frd P (rks P n least)) s i n : Int) := by
  have := mis_frd P (rks P n least) s i (fun t h => rks_bound P n least h) n
  unfold mrr
  omega

theorem sp_none {P : Nat → Nat → Bool} {n : Nat} {least : Int} (h : (fks P n least).length = 0) (s : ByteArray) (i : Nat) : (mis P s i n : Int) = mrr P n s (rks P n least) i := by
  have h0 : kd (frd P (rks P n least)) n = [] := by rw [kd_rks]; exact List.length_eq_zero_iff.1 h
  have h1 := mis_full (frd P (rks P n least)) s i n (fun t ht => by
    have := kd_once (frd P (rks P n least)) ht
    rw [h0, cnt_nil] at this
    cases hf : fr (frd P (rks P n least) t) with
    | true => rfl
    | false => rw [hf] at this; cases this)
  have := sp_slid P n s least i
  rw [h1] at this
  simpa using this

theorem se_sp {P : Nat → Nat → Bool} {n m : Nat} {K z least : Int} (hr : rgt P n K = true) (hp : pln P n = true) (h : (fks P n least).length ≠ 0) : se (frd P (rks P n least)) n K m z = spe P n K m z least := by
  have e1 : se (frd P (rks P n least)) n K m z = if n ≤ m ∧ szb n z = false then 50 else 0 := by
    unfold se
    rw [if_neg (by rw [rgt_frd _ hr]; decide)]
  have e2 : spe P n K m z least = if (fks P n least).length ≠ 0 ∧ n ≤ m ∧ szb n z = false then 50 else 0 := by
    unfold spe
    rw [if_neg (by rw [hr, hp]; simp)]
  rw [e1, e2]
  by_cases h2 : n ≤ m ∧ szb n z = false
  · rw [if_pos h2, if_pos ⟨h, h2.1, h2.2⟩]
  · rw [if_neg h2, if_neg (fun hh => h2 hh.2)]

theorem sq_sp {P : Nat → Nat → Bool} {n m : Nat} {K z least : Int} (hr : rgt P n K = true) (hp : pln P n = true) (h : (fks P n least).length ≠ 0) : sq (frd P (rks P n least)) n K m z = spq P n K m z least := by
  unfold sq spq
  rw [se_sp hr hp h, kd_rks]

theorem stn_frd {P : Nat → Nat → Bool} {n m : Nat} {K : Int} (L : List (Nat → Bool)) (hr : rgt P n K = true) : stn (frd P L) n K m = stn P n K m := by
  unfold stn
  rw [hr, rgt_frd L hr]

set_option maxRecDepth 100000 in
set_option maxHeartbeats 4000000 in
theorem counts12_form (P : Nat → Nat → Bool) (n cap : Nat) (ao : Option Addr) (K z least : Int) (s : ByteArray) (w : World) (hT : TabB w) (hl : Lf w ao n P) (hno : rgt P n K = false ∨ pln P n = false) :
    Calls Tryd.prog 19 #[.agg #[.slice ao n cap, .int .i64 K], .string s, .int .i64 z, .int .i64 least] w fun e w' => e = .returned (.tuple #[.slice none 0 0, .int .i64 0, .int .i64 170]) ∧ Below w.heap.size w w' := by
  obtain ⟨w1, b1⟩ := lbox w (.slice ao n cap) (.int .i64 K)
  have E1 : Hid _ := b1.eq
  have B1 : Hid (Below w.heap.size w w1) := b1.bel
  have s1 : w.heap.size < w1.heap.size := by have := b1.size; omega
  have HC : Hid (w1.cell? ⟨w.heap.size, 0, none⟩ = some (.slice ao n cap) ∧ w1.cell? ⟨w.heap.size, 1, none⟩ = some (.int .i64 K)) := ⟨b1.c0, b1.c1⟩
  have c0 := HC.out.1
  have c1 := HC.out.2
  have HL : Hid (Lf w1 ao n P) := hl.grow b1.bel
  have HT : Hid (TabB w1) := hT.grow b1.bel
  have cr : Hid _ := right_any P n cap ao K w1 HL.out
  clear b1 hl hT
  cases hr : rgt P n K with
  | false =>
    rw [hr] at cr
    clear hno hr
    go_enter Tryd.func19, Tryd.ntmps19
    go_wp2_with (first | rw [← E1.out])
    refine Calls.mono (Hid.out cr) ?_; rintro e w2 ⟨rfl, b2⟩
    have B2 : Hid (Below w.heap.size w w2) := B1.out.trans (b2.mono B1.out.size)
    clear b2 cr c0 c1 E1
    go_wp2_with fail
    refine bodyPost_ret (results_tmp3 rfl _ _ _) rfl ?_
    exact ⟨rfl, B2.out⟩
  | true =>
    have hp : pln P n = false := hno.resolve_left (by rw [hr]; decide)
    rw [hr] at cr
    have CP : Hid _ := fun v hv => plain_any P n cap ao K v (HT.out.grow hv) (HL.out.grow hv)
    rw [hp] at CP
    clear hno hr hp
    go_enter Tryd.func19, Tryd.ntmps19
    go_wp2_with (first | rw [← E1.out])
    refine Calls.mono (Hid.out cr) ?_; rintro e w2 ⟨rfl, b2⟩
    have B12 : Hid (Below w1.heap.size w1 w2) := b2
    have cp : Hid _ := CP.out w2 b2
    obtain ⟨d0, d1⟩ := two_below HC.out b2 s1
    clear b2 cr c0 c1 E1
    go_wp2_with fail
    refine Calls.mono (Hid.out cp) ?_; rintro e w3 ⟨rfl, b3⟩
    have B3 : Hid (Below w.heap.size w w3) := B1.out.trans ((B12.out.trans (b3.mono B12.out.size)).mono B1.out.size)
    clear b3 cp d0 d1
    go_wp2_with fail
    refine bodyPost_ret (results_tmp3 rfl _ _ _) rfl ?_
    exact ⟨rfl, B3.out⟩

/-- What is told of places, in a row that holds them. -/
def Told5C (w : World) (L : List Nat) (q c : Int) (e : Ending) (w' : World) : Prop :=
  (∃ bo d, e = .returned (.tuple #[.slice bo L.length d, .int .i64 q, .int .i64 c]) ∧ Is w' bo L ∧ L.length ≤ d) ∧ Below w.heap.size w w'

theorem told5c_nil {w w' : World} {q c : Int} (h : Below w.heap.size w w') : Told5C w [] q c (.returned (.tuple #[.slice none 0 0, .int .i64 q, .int .i64 c])) w' := ⟨⟨none, 0, rfl, fun h => absurd h (by simp), Nat.le_refl _⟩, h⟩

set_option maxRecDepth 100000 in
set_option maxHeartbeats 4000000 in
theorem counts12_cap (P : Nat → Nat → Bool) (n cap : Nat) (ao : Option Addr) (K z least : Int) (s : ByteArray) (hs : s.size ≤ 1000000) (w : World) (hA : Tab w) (hT : TabB w) (hl : Lf w ao n P) :
    Calls Tryd.prog 19 #[.agg #[.slice ao n cap, .int .i64 K], .string s, .int .i64 z, .int .i64 least] w (Told5C w (spc P n K s z least) (spq P n K s.size z least) (spe P n K s.size z least)) := by
  by_cases hno : rgt P n K = false ∨ pln P n = false
  · refine Calls.mono (counts12_form P n cap ao K z least s w hT hl hno) ?_
    rintro e w' ⟨rfl, hb⟩
    have he : ¬ spe P n K s.size z least = 0 := by rw [spe_form hno]; decide
    rw [spc_no he, spq_no he, spe_form hno]
    exact told5c_nil hb
  have hr : rgt P n K = true := by
    cases h : rgt P n K with
    | true => rfl
    | false => exact absurd (.inl h) hno
  have hp : pln P n = true := by
    cases h : pln P n with
    | true => rfl
    | false => exact absurd (.inr h) hno
  clear hno
  obtain ⟨w1, b1⟩ := lbox w (.slice ao n cap) (.int .i64 K)
  have E1 : Hid _ := b1.eq
  have B1 : Hid (Below w.heap.size w w1) := b1.bel
  have s1 : w.heap.size < w1.heap.size := by have := b1.size; omega
  have HC : Hid (w1.cell? ⟨w.heap.size, 0, none⟩ = some (.slice ao n cap) ∧ w1.cell? ⟨w.heap.size, 1, none⟩ = some (.int .i64 K)) := ⟨b1.c0, b1.c1⟩
  have c0 := HC.out.1
  have c1 := HC.out.2
  have HL : Hid (Lf w1 ao n P) := hl.grow b1.bel
  have HT : Hid (TabB w1) := hT.grow b1.bel
  have HA : Hid (Tab w1) := hA.below b1.bel (tab_lt hA)
  have cr : Hid _ := right_any P n cap ao K w1 HL.out
  have CP : Hid _ := fun v hv => plain_any P n cap ao K v (HT.out.grow hv) (HL.out.grow hv)
  have CPa : Hid _ := fun v hv => parts12_any P n cap ao K least v (HL.out.grow hv)
  have CM : Hid _ := fun v (ko : Option Addr) (kc : Nat) hv hk => misses12_cap P n cap ao K s (rks P n least) kc ko hs v (HL.out.grow hv) hk
  have CR : Hid _ := fun v (ko : Option Addr) (kc : Nat) hv hk => freed12_any P n cap ao K (rks P n least) kc ko v (HL.out.grow hv) hk
  have CS : Hid _ := fun v (bo : Option Addr) (d : Nat) hv hk => counts11_new (frd P (rks P n least)) n d bo K z s hs v (HA.out.below hv (tab_lt HA.out)) hk
  rw [hr] at cr
  rw [hp] at CP
  have hNs := stn_le P n s.size K
  obtain ⟨_, h64, _, _⟩ := rgt_len hr
  have hfl := fks_len P n least
  have HSL : Hid _ := sp_slid P n s least
  have HCT : Hid (∀ t, (ht : t < (cts P n K s).length) → (cts P n K s)[t] = mis P s t n) := fun t ht => cts_at P n K s t ht
  have hML : ∀ i, (mis P s i n : Int) ≤ n := fun i => by have := mis_le P s i n; omega
  have HML : Hid _ := hML
  by_cases hf : (fks P n least).length = 0
  · -- nothing is slid
    have he : spe P n K s.size z least = 0 := spe_ok hr hp (.inl hf)
    have HN : Hid _ := sp_none hf s
    rw [spc_ok he, spq_ok he, he, hf]
    rw [hf] at CPa
    have hlen := cts_len P n K s
    obtain ⟨N, hNe⟩ : ∃ N, stn P n K s.size = N := ⟨_, rfl⟩
    rw [hNe] at CM hNs hlen
    have HLn : Hid _ := hlen
    have hz : ((0 : Nat) : Int) * ct n s.size z = 0 := by simp
    rw [hz]
    clear b1 hl hT hA hr hp he hf hNe hz CS CR hML hlen
    go_enter Tryd.func19, Tryd.ntmps19
    go_wp2_with (first | rw [← E1.out])
    refine Calls.mono (Hid.out cr) ?_; rintro e w2 ⟨rfl, b2⟩
    have B12 : Hid (Below w1.heap.size w1 w2) := b2
    have cp : Hid _ := CP.out w2 b2
    obtain ⟨d0, d1⟩ := two_below HC.out b2 s1
    clear b2 cr c0 c1 E1 CP
    go_wp2_with fail
    refine Calls.mono (Hid.out cp) ?_; rintro e w3 ⟨rfl, b3⟩
    have B13 : Hid (Below w1.heap.size w1 w3) := B12.out.trans (b3.mono B12.out.size)
    have ca : Hid _ := CPa.out w3 B13.out
    obtain ⟨d0, d1⟩ := two_below HC.out B13.out s1
    clear b3 cp CPa
    go_wp2_with fail
    refine Calls.mono (Hid.out ca) ?_; rintro e w4 ⟨⟨fo, fd, ro, rd, rfl, _, lr⟩, b4⟩
    have B14 : Hid (Below w1.heap.size w1 w4) := B13.out.trans (b4.mono B13.out.size)
    have cm : Hid _ := CM.out w4 ro rd B14.out lr
    obtain ⟨d0, d1⟩ := two_below HC.out B14.out s1
    clear b4 ca CM lr
    go_wp2_with fail
    refine Calls.mono (Hid.out cm) ?_; rintro e w5 ⟨⟨co, cc, rfl, hc, hcap⟩, b5⟩
    have HCap : Hid (N ≤ cc) := hcap
    clear hcap
    have B5 : Hid (Below w.heap.size w w5) := B1.out.trans ((B14.out.trans (b5.mono B14.out.size)).mono B1.out.size)
    have HI : Hid (Told5C w (cts P n K s) 0 0 (.returned (.tuple #[.slice co N cc, .int .i64 0, .int .i64 0])) w5) := by
      refine ⟨⟨co, cc, by rw [HLn.out], ?_, by rw [HLn.out]; exact HCap.out⟩, B5.out⟩
      have hl := HLn.out
      rw [← hl] at hc
      exact hc.is (fun t ht => by rw [HCT.out t ht, HN.out t])
    clear b5 hc cm d0 d1
    go_wp2_with fail
    refine bodyPost_ret (results_tmp3 rfl _ _ _) rfl ?_
    exact HI.out
  · have HSE := se_sp (m := s.size) (z := z) hr hp hf
    have HSQ := sq_sp (m := s.size) (z := z) hr hp hf
    have HSN := stn_frd (m := s.size) (rks P n least) hr
    rw [HSE, HSQ] at CS
    have hf0 : (((fks P n least).length : Int) == 0) = false := by simp; intro h; exact hf (by rw [h]; rfl)
    obtain ⟨f, hfe⟩ : ∃ f, (fks P n least).length = f := ⟨_, rfl⟩
    rw [hfe] at CPa hf0
    obtain ⟨N, hNe⟩ : ∃ N, stn P n K s.size = N := ⟨_, rfl⟩
    rw [hNe] at CM hNs HSN
    by_cases he : spe P n K s.size z least = 0
    · have hse : se (frd P (rks P n least)) n K s.size z = 0 := by rw [HSE]; exact he
      have hscl : (sc (frd P (rks P n least)) n K s z).length = N := by rw [sc_ok hse, cts_len, HSN]
      have HSC : Hid (∀ t, (ht : t < (sc (frd P (rks P n least)) n K s z).length) → (sc (frd P (rks P n least)) n K s z)[t] = mis (frd P (rks P n least)) s t n) := fun t ht => by
        have h2 : (cts (frd P (rks P n least)) n K s)[t]? = some (mis (frd P (rks P n least)) s t n) := by
          have h3 : t < (cts (frd P (rks P n least)) n K s).length := by rw [← sc_ok hse]; exact ht
          rw [List.getElem?_eq_getElem h3, cts_at]
        rw [← sc_ok hse (z := z), List.getElem?_eq_getElem ht] at h2
        exact Option.some.inj h2
      have HML2 : Hid (∀ i, (mis (frd P (rks P n least)) s i n : Int) ≤ n) := fun i => by have := mis_le (frd P (rks P n least)) s i n; omega
      have hlen := cts_len P n K s
      rw [hNe] at hlen
      rw [spc_ok he, he]
      rw [he] at CS
      have HLn : Hid _ := hlen
      generalize spq P n K s.size z least = Q at *
      generalize sc (frd P (rks P n least)) n K s z = M at *
      have HMl : Hid (M.length = N) := hscl
      have CS' : Hid (∀ (v : World) (bo : Option Addr) (d : Nat), Below w1.heap.size w1 v → Lf v bo n (frd P (rks P n least)) → Calls Tryd.prog 37 #[.agg #[.slice bo n d, .int .i64 K], .string s, .int .i64 z] v fun e w' => (∃ bo d, e = .returned (.tuple #[.slice bo N d, .int .i64 Q, .int .i64 0]) ∧ Is w' bo M ∧ (1 ≤ N → ∃ g, bo = some ⟨g, 0, none⟩ ∧ v.heap.size ≤ g)) ∧ Below v.heap.size v w') := fun v bo d hv hk => by rw [← HMl.out]; exact CS.out v bo d hv hk
      clear CS
      have CS : Hid _ := CS'.out
      clear CS' b1 hl hT hA hr hp he hf hNe hML hlen HSE HSQ HSN hfe hse hscl
      go_enter Tryd.func19, Tryd.ntmps19
      go_wp2_with (first | rw [← E1.out])
      refine Calls.mono (Hid.out cr) ?_; rintro e w2 ⟨rfl, b2⟩
      have B12 : Hid (Below w1.heap.size w1 w2) := b2
      have cp : Hid _ := CP.out w2 b2
      obtain ⟨d0, d1⟩ := two_below HC.out b2 s1
      clear b2 cr c0 c1 E1 CP
      go_wp2_with fail
      refine Calls.mono (Hid.out cp) ?_; rintro e w3 ⟨rfl, b3⟩
      have B13 : Hid (Below w1.heap.size w1 w3) := B12.out.trans (b3.mono B12.out.size)
      have ca : Hid _ := CPa.out w3 B13.out
      obtain ⟨d0, d1⟩ := two_below HC.out B13.out s1
      clear b3 cp CPa
      go_wp2_with fail
      refine Calls.mono (Hid.out ca) ?_; rintro e w4 ⟨⟨fo, fd, ro, rd, rfl, _, lr⟩, b4⟩
      have B14 : Hid (Below w1.heap.size w1 w4) := B13.out.trans (b4.mono B13.out.size)
      have cm : Hid _ := CM.out w4 ro rd B14.out lr
      have LR : Hid (Lf w4 ro (rks P n least).length (at' (rks P n least))) := lr
      obtain ⟨d0, d1⟩ := two_below HC.out B14.out s1
      clear b4 ca CM lr
      go_wp2_with fail
      refine Calls.mono (Hid.out cm) ?_; rintro e w5 ⟨⟨co, cc, rfl, hc, hcap⟩, b5⟩
      have HCap : Hid (N ≤ cc) := hcap
      clear hcap
      have B15 : Hid (Below w1.heap.size w1 w5) := B14.out.trans (b5.mono B14.out.size)
      have HCr : Hid (Cr w w5 co N (mrr P n s (rks P n least))) := hc.from (Nat.le_trans B1.out.size B14.out.size)
      have cf : Hid _ := CR.out w5 ro rd B15.out (LR.out.grow b5)
      obtain ⟨d0, d1⟩ := two_below HC.out B15.out s1
      clear b5 hc cm CR LR
      go_wp2_with fail
      refine Calls.mono (Hid.out cf) ?_; rintro e w6 ⟨⟨bo, bd, rfl, lb⟩, b6⟩
      have B16 : Hid (Below w1.heap.size w1 w6) := B15.out.trans (b6.mono B15.out.size)
      have HC6 : Hid (Cr w w6 co N (mrr P n s (rks P n least))) := HCr.out.grow b6
      have cs : Hid _ := CS.out w6 bo bd B16.out lb
      clear b6 cf CS lb HCr d0 d1
      go_wp2_with fail
      refine Calls.mono (Hid.out cs) ?_; rintro e w7 ⟨⟨so, sd, rfl, hi, hnew⟩, b7⟩
      have B17 : Hid (Below w1.heap.size w1 w7) := B16.out.trans (b7.mono B16.out.size)
      have HC7 : Hid (Cr w w7 co N (mix 0 (fun i => (mis P s i n : Int)) (mrr P n s (rks P n least)))) := (HC6.out.grow b7).congr (fun t _ => by rw [mix_hi (Nat.zero_le _)])
      have HS7 : Hid (1 ≤ N → ∃ gs g, so = some ⟨gs, 0, none⟩ ∧ co = some ⟨g, 0, none⟩ ∧ gs ≠ g ∧ gs < w7.heap.size ∧ ∀ t, t < N → w7.cell? ⟨gs, t, none⟩ = some (.int .i64 (mis (frd P (rks P n least)) s t n : Int))) := fun h1 => by
        obtain ⟨gs, e1, h2⟩ := hnew h1
        obtain ⟨b, e2, h3, h4⟩ := hi (by rw [HMl.out]; exact h1)
        obtain ⟨g, e3, h5, h6⟩ := HC6.out h1
        have h7 := h6.lt
        obtain rfl : gs = b := by rw [e1] at e2; injection e2 with e2; injection e2
        exact ⟨gs, g, e1, e3, by omega, h3, fun t ht => by rw [h4 t (by rw [HMl.out]; exact ht), HSC.out t (by rw [HMl.out]; exact ht)]⟩
      clear b7 cs hi hnew HC6
      go_wp2_with fail
      go_loopw [56] (fun vk wr => Fr (fun j => 1 ≤ N → ∀ g, co = some ⟨g, 0, none⟩ → j ≠ g) w7 wr ∧ ∃ k : Nat, k ≤ N ∧ vk = .int .i64 k ∧ Cr w wr co N (mix k (fun i => (mis P s i n : Int)) (mrr P n s (rks P n least)))) (fun vk _ => N - (intOf vk).toNat)
      case atStart => exact ⟨Fr.refl _ _, 0, Nat.zero_le _, rfl, HC7.out⟩
      case round =>
        obtain ⟨hfr, k, hk, rfl, hc⟩ := hrel
        by_cases hkN : k < N
        · obtain ⟨gs, g, rfl, rfl, hne, hlt, hcs⟩ := HS7.out (by omega)
          obtain ⟨g2, e2, hg, hR⟩ := hc (by omega)
          obtain rfl : g = g2 := by injection e2 with e2; injection e2
          have ck := hR.cell hkN
          rw [mix_hi (Nat.le_refl _)] at ck
          have fk := hR.frozen k
          have sk : wr.cell? ⟨gs, k, none⟩ = some (.int .i64 (mis (frd P (rks P n least)) s k n : Int)) := (hfr.cell (p := ⟨gs, k, none⟩) (fun _ g' e => by cases e; exact hne) hlt).trans (hcs k hkN)
          have hkI : (k : Int) < (N : Int) := by omega
          have hsl := HSL.out k
          have h1 := HML.out k
          have h2 := HML2.out k
          have hwk : IntKind.i64.wrap (mrr P n s (rks P n least) k + (mis (frd P (rks P n least)) s k n : Int)) = (mis P s k n : Int) := by rw [← hsl, IntKind.wrap_i64]; omega
          have HX : Hid (Fr (fun j => 1 ≤ N → ∀ g', some ⟨g, 0, none⟩ = some (⟨g', 0, none⟩ : Addr) → j ≠ g') w7 (wr.setCell ⟨g, k, none⟩ (.int .i64 (mis P s k n : Int))) ∧ Cr w (wr.setCell ⟨g, k, none⟩ (.int .i64 (mis P s k n : Int))) (some ⟨g, 0, none⟩) N (mix (k + 1) (fun i => (mis P s i n : Int)) (mrr P n s (rks P n least)))) :=
            ⟨hfr.setCell (fun h => h (by omega) g rfl rfl) _, fun _ => ⟨g, rfl, hg, (hR.put k _).congr (fun t _ => by
              by_cases e : t = k
              · subst e; rw [upd_at, mix_lo (by omega)]
              · rw [upd_off e]
                by_cases e2 : t < k
                · rw [mix_lo e2, mix_lo (by omega)]
                · rw [mix_hi (by omega), mix_hi (by omega)])⟩⟩
          clear hR hc hfr hcs hsl h1 h2
          generalize mrr P n s (rks P n least) k = x at *
          generalize (mis (frd P (rks P n least)) s k n : Int) = y at *
          generalize (mis P s k n : Int) = v at *
          go_wp2_with fail
          go_roundw
          case rel => exact ⟨HX.out.1, k + 1, by omega, by go_num, HX.out.2⟩
          case measure => simp [intOf]; omega
        · obtain rfl : k = N := by omega
          have B7 : Below w.heap.size w w7 := B1.out.trans (B17.out.mono B1.out.size)
          have BR : Below w.heap.size w wr := B7.trans (hfr.below B7.size (fun j hj h1 g e => by
            obtain ⟨g2, e2, hg, _⟩ := hc h1
            rw [e] at e2
            injection e2 with e2
            injection e2 with e2
            omega))
          have HI : Hid (Told5C w (cts P n K s) Q 0 (.returned (.tuple #[.slice co k cc, .int .i64 Q, .int .i64 0])) wr) := by
            have hc2 : Cr w wr co k (fun i => (mis P s i n : Int)) := hc.congr (fun t ht => mix_lo ht)
            refine ⟨⟨co, cc, by rw [HLn.out], ?_, by rw [HLn.out]; exact HCap.out⟩, BR⟩
            have hl := HLn.out
            rw [← hl] at hc2
            exact hc2.is (fun t ht => by rw [HCT.out t ht])
          clear hc hfr BR B7
          go_wp2_with fail
          refine bodyPost_ret (results_tmp3 rfl _ _ _) rfl ?_
          exact HI.out
    · have hse : ¬ se (frd P (rks P n least)) n K s.size z = 0 := by rw [HSE]; exact he
      rw [sc_no hse, spq_no he] at CS
      rw [spc_no he, spq_no he]
      obtain ⟨C, hC⟩ : ∃ C, spe P n K s.size z least = C := ⟨_, rfl⟩
      rw [hC] at CS he ⊢
      have hC0 : (C == 0) = false := by simpa using he
      clear b1 hl hT hA hr hp hf hNe hML HSE HSQ HSN hfe hse hC HCT HSL HML
      go_enter Tryd.func19, Tryd.ntmps19
      go_wp2_with (first | rw [← E1.out])
      refine Calls.mono (Hid.out cr) ?_; rintro e w2 ⟨rfl, b2⟩
      have B12 : Hid (Below w1.heap.size w1 w2) := b2
      have cp : Hid _ := CP.out w2 b2
      obtain ⟨d0, d1⟩ := two_below HC.out b2 s1
      clear b2 cr c0 c1 E1 CP
      go_wp2_with fail
      refine Calls.mono (Hid.out cp) ?_; rintro e w3 ⟨rfl, b3⟩
      have B13 : Hid (Below w1.heap.size w1 w3) := B12.out.trans (b3.mono B12.out.size)
      have ca : Hid _ := CPa.out w3 B13.out
      obtain ⟨d0, d1⟩ := two_below HC.out B13.out s1
      clear b3 cp CPa
      go_wp2_with fail
      refine Calls.mono (Hid.out ca) ?_; rintro e w4 ⟨⟨fo, fd, ro, rd, rfl, _, lr⟩, b4⟩
      have B14 : Hid (Below w1.heap.size w1 w4) := B13.out.trans (b4.mono B13.out.size)
      have cm : Hid _ := CM.out w4 ro rd B14.out lr
      have LR : Hid (Lf w4 ro (rks P n least).length (at' (rks P n least))) := lr
      obtain ⟨d0, d1⟩ := two_below HC.out B14.out s1
      clear b4 ca CM lr
      go_wp2_with fail
      refine Calls.mono (Hid.out cm) ?_; rintro e w5 ⟨⟨co, cc, rfl, hc, hcap⟩, b5⟩
      have HCap : Hid (N ≤ cc) := hcap
      clear hcap
      have B15 : Hid (Below w1.heap.size w1 w5) := B14.out.trans (b5.mono B14.out.size)
      have HCr : Hid (Cr w w5 co N (mrr P n s (rks P n least))) := hc.from (Nat.le_trans B1.out.size B14.out.size)
      have cf : Hid _ := CR.out w5 ro rd B15.out (LR.out.grow b5)
      obtain ⟨d0, d1⟩ := two_below HC.out B15.out s1
      clear b5 hc cm CR LR
      go_wp2_with fail
      refine Calls.mono (Hid.out cf) ?_; rintro e w6 ⟨⟨bo, bd, rfl, lb⟩, b6⟩
      have B16 : Hid (Below w1.heap.size w1 w6) := B15.out.trans (b6.mono B15.out.size)
      have HC6 : Hid (Cr w w6 co N (mrr P n s (rks P n least))) := HCr.out.grow b6
      have cs : Hid _ := CS.out w6 bo bd B16.out lb
      clear b6 cf CS lb HCr d0 d1
      go_wp2_with fail
      refine Calls.mono (Hid.out cs) ?_; rintro e w7 ⟨⟨so, sd, rfl, _, _⟩, b7⟩
      have B7 : Hid (Below w.heap.size w w7) := B1.out.trans ((B16.out.trans (b7.mono B16.out.size)).mono B1.out.size)
      clear b7 cs
      go_wp2_with fail
      refine bodyPost_ret (results_tmp3 rfl _ _ _) rfl ?_
      exact told5c_nil B7.out

theorem counts12_any (P : Nat → Nat → Bool) (n cap : Nat) (ao : Option Addr) (K z least : Int) (s : ByteArray) (hs : s.size ≤ 1000000) (w : World) (hA : Tab w) (hT : TabB w) (hl : Lf w ao n P) :
    Calls Tryd.prog 19 #[.agg #[.slice ao n cap, .int .i64 K], .string s, .int .i64 z, .int .i64 least] w (Told5 w (spc P n K s z least) (spq P n K s.size z least) (spe P n K s.size z least)) :=
  Calls.mono (counts12_cap P n cap ao K z least s hs w hA hT hl) (by
    rintro e w' ⟨⟨bo, d, h1, h2, _⟩, hb⟩
    exact ⟨⟨bo, d, h1, h2⟩, hb⟩)

set_option maxHeartbeats 2000000 in
theorem find12_any (P : Nat → Nat → Bool) (n cap : Nat) (ao : Option Addr) (K z least : Int) (s : ByteArray) (hs : s.size ≤ 1000000) (w : World) (hA : Tab w) (hT : TabB w) (hl : Lf w ao n P) :
    Calls Tryd.prog 23 #[.agg #[.slice ao n cap, .int .i64 K], .string s, .int .i64 z, .int .i64 least] w (Told5 w (spf P n K s z least) (spq P n K s.size z least) (spe P n K s.size z least)) := by
  obtain ⟨w1, b1⟩ := lbox w (.slice ao n cap) (.int .i64 K)
  have E1 : Hid _ := b1.eq
  have B1 : Hid (Below w.heap.size w w1) := b1.bel
  have s1 : w.heap.size < w1.heap.size := by have := b1.size; omega
  have HC : Hid (w1.cell? ⟨w.heap.size, 0, none⟩ = some (.slice ao n cap) ∧ w1.cell? ⟨w.heap.size, 1, none⟩ = some (.int .i64 K)) := ⟨b1.c0, b1.c1⟩
  have c0 := HC.out.1
  have c1 := HC.out.2
  have cc : Hid _ := counts12_any P n cap ao K z least s hs w1 (hA.below b1.bel (tab_lt hA)) (hT.grow b1.bel) (hl.grow b1.bel)
  have HF : Hid _ := spf_hts P n K s z least
  have hlen := spc_len P n K s z least
  by_cases he : spe P n K s.size z least = 0
  · obtain ⟨L, hL⟩ : ∃ L, spc P n K s z least = L := ⟨_, rfl⟩
    rw [hL] at cc HF hlen
    have hh : Hid (∀ (v : World) (bo : Option Addr) (d : Nat), Is v bo L → Calls Tryd.prog 43 #[.slice bo L.length d, .int .i64 K] v (Told v (spf P n K s z least))) := fun v bo d hi => by rw [HF.out]; exact hits_any _ K L.length d bo (by omega) v hi.ir
    rw [he] at cc ⊢
    generalize spf P n K s z least = G at *
    generalize spq P n K s.size z least = Q at *
    obtain ⟨m, hm⟩ : ∃ m, L.length = m := ⟨_, rfl⟩
    have hh' : Hid (∀ (v : World) (bo : Option Addr) (d : Nat), Is v bo L → Calls Tryd.prog 43 #[.slice bo m d, .int .i64 K] v (Told v G)) := fun v bo d hi => by rw [← hm]; exact hh.out v bo d hi
    have cc' : Hid (Calls Tryd.prog 19 #[.agg #[.slice ao n cap, .int .i64 K], .string s, .int .i64 z, .int .i64 least] w1 fun e w' => (∃ bo d, e = .returned (.tuple #[.slice bo m d, .int .i64 Q, .int .i64 0]) ∧ Is w' bo L) ∧ Below w1.heap.size w1 w') := Calls.mono cc.out (fun e w' h => by rw [← hm]; exact h)
    clear b1 hl hA hT hL cc hh hlen HF hm he
    go_enter Tryd.func23, Tryd.ntmps23
    go_wp2_with (first | rw [← E1.out])
    refine Calls.mono (Hid.out cc') ?_; rintro e w2 ⟨⟨bo, d, rfl, i2⟩, b2⟩
    have B2 : Hid (Below w.heap.size w w2) := B1.out.trans (b2.mono B1.out.size)
    have c2 : Hid _ := hh'.out w2 bo d i2
    obtain ⟨d0, d1⟩ := two_below HC.out b2 s1
    clear b2 cc' c0 c1 E1 i2 hh'
    go_wp2_with fail
    refine Calls.mono (Hid.out c2) ?_; rintro e w3 ⟨⟨bo3, d3, rfl, i3, _⟩, b3⟩
    have HT : Hid (Told5 w G Q 0 (.returned (.tuple #[.slice bo3 G.length d3, .int .i64 Q, .int .i64 0])) w3) := ⟨⟨_, _, rfl, i3⟩, B2.out.trans (b3.mono B2.out.size)⟩
    clear b3 i3 c2 d0 d1
    go_wp2_with fail
    refine bodyPost_ret (results_tmp3 rfl _ _ _) rfl ?_
    exact HT.out
  · rw [spc_no he, spq_no he] at cc
    rw [spf_no he, spq_no he]
    obtain ⟨C, hC⟩ : ∃ C, spe P n K s.size z least = C := ⟨_, rfl⟩
    rw [hC] at cc he ⊢
    have hC0 : (C == 0) = false := by simpa using he
    have cc' : Hid (Calls Tryd.prog 19 #[.agg #[.slice ao n cap, .int .i64 K], .string s, .int .i64 z, .int .i64 least] w1 fun e w' => (∃ bo d, e = .returned (.tuple #[.slice bo 0 d, .int .i64 0, .int .i64 C])) ∧ Below w1.heap.size w1 w') := Calls.mono cc.out (fun e w' ⟨⟨bo, d, h, _⟩, hb⟩ => ⟨⟨bo, d, h⟩, hb⟩)
    clear b1 hl hA hT cc hlen HF hC
    go_enter Tryd.func23, Tryd.ntmps23
    go_wp2_with (first | rw [← E1.out])
    refine Calls.mono (Hid.out cc') ?_; rintro e w2 ⟨⟨bo, d, rfl⟩, b2⟩
    have B2 : Hid (Below w.heap.size w w2) := B1.out.trans (b2.mono B1.out.size)
    clear b2 cc' c0 c1 E1
    go_wp2_with fail
    refine bodyPost_ret (results_tmp3 rfl _ _ _) rfl ?_
    exact told5_nil B2.out

end Cls

end Go.Proofs.YtlogdjhnhnfbkaaDoor
