/- Each bound element is of one kind: plain. -/
import Derived.Test.YtlogdjhnhnfbkaaDoorLfA
namespace Go.Proofs.YtlogdjhnhnfbkaaDoor
open Go.RowKit
namespace Cls

/-- How many of L are the same as x. -/
def cnt (L : List (Nat → Bool)) (x : Nat → Bool) : Nat := (L.filter fun g => sm x g).length

theorem cnt_nil (x : Nat → Bool) : cnt [] x = 0 := rfl

theorem cnt_snoc (L : List (Nat → Bool)) (g x : Nat → Bool) : cnt (L ++ [g]) x = cnt L x + (sm x g).toNat := by
  unfold cnt
  rw [List.filter_append, List.length_append]
  cases h : sm x g <;> simp [h]

theorem cnt_none {L : List (Nat → Bool)} {x : Nat → Bool} (h : ∀ g ∈ L, sm x g = false) : cnt L x = 0 := by
  unfold cnt
  rw [List.length_eq_zero_iff, List.filter_eq_nil_iff]
  intro g hg
  rw [h g hg]
  simp

theorem cnt_pos {L : List (Nat → Bool)} {g x : Nat → Bool} (hg : g ∈ L) (h : sm x g = true) : cnt L x ≠ 0 := by
  unfold cnt
  intro e
  rw [List.length_eq_zero_iff, List.filter_eq_nil_iff] at e
  exact e g hg h

theorem fr_same {f g : Nat → Bool} (h : sm f g = true) : fr f = fr g := sm_left h

theorem kd_bound (P : Nat → Nat → Bool) : ∀ n, ∀ g ∈ kd P n, fr g = false
  | 0 => by simp [kd]
  | n + 1 => by
    intro g hg
    unfold kd at hg
    split at hg
    · exact kd_bound P n g hg
    · rename_i h
      rw [List.mem_append] at hg
      rcases hg with hg | hg
      · exact kd_bound P n g hg
      · rw [List.mem_singleton] at hg
        subst hg
        cases e : fr (P n) with
        | false => rfl
        | true => rw [e] at h; simp at h

/-- Is x among the first n? -/
def has (P : Nat → Nat → Bool) (n : Nat) (x : Nat → Bool) : Bool := (List.range n).any fun t => sm (P t) x

theorem has_succ (P : Nat → Nat → Bool) (n : Nat) (x : Nat → Bool) : has P (n + 1) x = (has P n x || sm (P n) x) := by
  unfold has
  rw [List.range_succ, List.any_append]
  simp

theorem kd_free (P : Nat → Nat → Bool) (n : Nat) {x : Nat → Bool} (h : fr x = true) : cnt (kd P n) x = 0 := cnt_none (fun g hg => by
  have h1 := kd_bound P n g hg
  cases e : sm x g with
  | false => rfl
  | true => rw [← fr_same e, h] at h1; cases h1)

theorem kd_cnt (P : Nat → Nat → Bool) (x : Nat → Bool) (hx : fr x = false) : ∀ n, cnt (kd P n) x = (has P n x).toNat
  | 0 => rfl
  | n + 1 => by
    have ih := kd_cnt P x hx n
    rw [has_succ]
    by_cases h : (fr (P n) || mt (kd P n) (P n) (kd P n).length) = true
    · rw [kd_no h, ih]
      rw [mt_end] at h
      cases e : sm (P n) x with
      | false => rw [Bool.or_false]
      | true =>
        rw [Bool.or_true]
        have hf : fr (P n) = false := by rw [fr_same e]; exact hx
        rw [hf, Bool.false_or, List.any_eq_true] at h
        obtain ⟨g, hg, hs⟩ := h
        have := cnt_pos hg (x := x) (by rw [sm_comm]; exact sm_trans hs e)
        rw [ih] at this
        cases e2 : has P n x with
        | true => rfl
        | false => rw [e2] at this; exact absurd rfl this
    · have h : (fr (P n) || mt (kd P n) (P n) (kd P n).length) = false := by simpa using h
      rw [kd_new h, cnt_snoc, ih]
      rw [mt_end] at h
      have hm : ((kd P n).any fun g => sm g (P n)) = false := by cases e : ((kd P n).any fun g => sm g (P n)) with | false => rfl | true => rw [e] at h; simp at h
      rw [sm_comm x (P n)]
      cases e : sm (P n) x with
      | false => rw [Bool.or_false]; rfl
      | true =>
        have h0 : has P n x = false := by
          cases e2 : has P n x with
          | false => rfl
          | true =>
            rw [e2] at ih
            have hne : cnt (kd P n) x ≠ 0 := by rw [ih]; decide
            exfalso
            apply hne
            refine cnt_none (fun g hg => ?_)
            cases e3 : sm x g with
            | false => rfl
            | true =>
              rw [List.any_eq_false] at hm
              exact absurd (sm_trans (by rw [sm_comm]; exact e3) (by rw [sm_comm]; exact e)) (hm g hg)
        rw [h0]
        rfl

/-- How many of the first j of L are the same as element t. -/
def tq (P : Nat → Nat → Bool) (L : List (Nat → Bool)) (j t : Nat) : Nat := cnt (L.take j) (P t)

theorem tq_zero (P : Nat → Nat → Bool) (L : List (Nat → Bool)) (t : Nat) : tq P L 0 t = 0 := by unfold tq; rw [List.take_zero, cnt_nil]

theorem tq_succ (P : Nat → Nat → Bool) (L : List (Nat → Bool)) {j : Nat} (t : Nat) (h : j < L.length) : tq P L (j + 1) t = tq P L j t + (sm (P t) (at' L j)).toNat := by
  unfold tq
  rw [at_get h, List.take_succ_eq_append_getElem h, cnt_snoc]

theorem tq_le (P : Nat → Nat → Bool) (L : List (Nat → Bool)) (j t : Nat) : tq P L j t ≤ j := by
  unfold tq cnt
  exact Nat.le_trans (List.length_filter_le _ _) (by rw [List.length_take]; omega)

theorem tq_end (P : Nat → Nat → Bool) {n t : Nat} (h : t < n) : tq P (kd P n) (kd P n).length t = (!fr (P t)).toNat := by
  unfold tq
  rw [List.take_length]
  cases e : fr (P t) with
  | true => rw [kd_free P n e]; rfl
  | false =>
    rw [kd_cnt P _ e n]
    have : has P n (P t) = true := any_range (q := fun s => sm (P s) (P t)) h (sm_refl _)
    rw [this]
    rfl

theorem wh_count (P : Nat → Nat → Bool) (c : Nat → Bool) {n t : Nat} (h : t < n) : (wh P c n).count t = (sm (P t) c).toNat := by
  induction n with
  | zero => omega
  | succ n ih =>
    rw [wh_succ]
    have hout : ¬ t < n → (wh P c n).count t = 0 := by
      intro hn
      rw [List.count_eq_zero]
      intro hm
      unfold wh at hm
      rw [List.mem_filter, List.mem_range] at hm
      exact hn hm.1
    by_cases e : t < n
    · have ne : t ≠ n := by omega
      split
      · rw [List.count_append, ih e]; simp [List.count_singleton]; omega
      · exact ih e
    · obtain rfl : t = n := by omega
      split
      · rename_i hs; rw [List.count_append, hout e, hs]; simp
      · rename_i hs; rw [hout e]; cases e2 : sm (P t) c with
        | false => rfl
        | true => exact absurd e2 hs

theorem wh_lt (P : Nat → Nat → Bool) (c : Nat → Bool) {n q : Nat} (h : q < (wh P c n).length) : (wh P c n)[q] < n := by
  have := List.getElem_mem h
  unfold wh at this
  rw [List.mem_filter, List.mem_range] at this
  exact this.1

/-- The row of numbers in the middle. -/
def tv (P : Nat → Nat → Bool) (L : List (Nat → Bool)) (j : Nat) (M : List Nat) (q t : Nat) : Value := .int .i64 (((tq P L j t + (M.take q).count t : Nat)) : Int)

theorem count_step (M : List Nat) {q : Nat} (t : Nat) (h : q < M.length) : (M.take (q + 1)).count t = (M.take q).count t + (if t = M[q] then 1 else 0) := by
  rw [List.take_succ_eq_append_getElem h, List.count_append, List.count_singleton]
  congr 1
  by_cases e : t = M[q]
  · simp [e]
  · have : ¬ M[q] = t := fun h => e h.symm
    simp [e, this]

theorem count_le (M : List Nat) (q t : Nat) : (M.take q).count t ≤ q := Nat.le_trans (List.count_le_length) (by rw [List.length_take]; omega)

end Cls
end Go.Proofs.YtlogdjhnhnfbkaaDoor
