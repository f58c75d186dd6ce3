/- Rows of sets of bytes: plain. -/
import Derived.Test.YtcohcdebbkfdfaaDoorClsA
namespace Go.Proofs.YtcohcdebbkfdfaaDoor
open Go.RowKit
namespace Cls

/-- Has it all bytes? -/
def fr (f : Nat → Bool) : Bool := sm f (fun _ => true)

/-- Has it just one? -/
def sg (f : Nat → Bool) : Bool := cb f 0 256 == 1

/-- Which? -/
def bt (f : Nat → Bool) : Nat := if sg f = true then ((List.range 256).find? f).getD 0 else 0

theorem fr_iff (f : Nat → Bool) : fr f = true ↔ ∀ b, b < 256 → f b = true := sm_iff f _

theorem sm_refl (f : Nat → Bool) : sm f f = true := sm_true (fun _ _ => rfl)

theorem sm_comm (f g : Nat → Bool) : sm f g = sm g f := by
  rw [Bool.eq_iff_iff, sm_iff, sm_iff]
  exact ⟨fun h b hb => (h b hb).symm, fun h b hb => (h b hb).symm⟩

theorem sm_trans {f g h : Nat → Bool} (a : sm f g = true) (b : sm g h = true) : sm f h = true :=
  sm_true (fun x hx => ((sm_iff f g).1 a x hx).trans ((sm_iff g h).1 b x hx))

theorem sm_left {f g h : Nat → Bool} (a : sm f g = true) : sm f h = sm g h := by
  rw [Bool.eq_iff_iff]
  exact ⟨fun b => sm_trans (by rw [sm_comm]; exact a) b, fun b => sm_trans a b⟩

theorem cb_le256 (f : Nat → Bool) (n : Nat) : cb f 0 n ≤ n := by
  induction n with
  | zero => simp [cb]
  | succ n ih => rw [cb_snoc]; have := Bool.toNat_le (f n); omega

theorem cb_full (f : Nat → Bool) (n : Nat) : cb f 0 n = n ↔ ∀ x, x < n → f x = true := by
  induction n with
  | zero => simp [cb]
  | succ n ih =>
    rw [cb_snoc]
    have h1 := cb_le256 f n
    have h2 := Bool.toNat_le (f n)
    constructor
    · intro h x hx
      have e1 : cb f 0 n = n := by omega
      have e2 : (f n).toNat = 1 := by omega
      by_cases hx2 : x < n
      · exact ih.1 e1 x hx2
      · rw [show x = n by omega]
        cases e : f n with
        | true => rfl
        | false => rw [e] at e2; simp at e2
    · intro h
      rw [ih.2 (fun x hx => h x (by omega)), h n (by omega)]
      rfl

theorem fr_size (f : Nat → Bool) : fr f = (cb f 0 256 == 256) := by
  rw [Bool.eq_iff_iff, fr_iff, beq_iff_eq, cb_full]

theorem em_size (f : Nat → Bool) : sm f (fun _ => false) = (cb f 0 256 == 0) := by
  rw [Bool.eq_iff_iff, sm_iff, beq_iff_eq, cb_none]

theorem sgl_sg (f : Nat → Bool) : Sgl f (bt f) (sg f) := by
  unfold bt
  by_cases h : sg f = true
  · rw [if_pos h]
    have h1 : cb f 0 256 = 1 := by simpa [sg] using h
    obtain ⟨b, hb, hx⟩ := (cb_one f 256).1 h1
    refine Or.inl ⟨h, ?_⟩
    have hf : (List.range 256).find? f = some b := by
      rw [List.find?_range_eq_some]
      refine ⟨by rw [hx b hb]; simp, by simpa using hb, fun j hj => ?_⟩
      rw [hx j (by omega)]
      simp
      omega
    rw [hf]
    exact ⟨hb, hx⟩
  · rw [if_neg h]
    refine Or.inr ⟨by simpa using h, rfl, fun hc => h ?_⟩
    have := (cb_one f 256).2 hc
    simp [sg, this]

theorem bt_lt (f : Nat → Bool) : bt f < 256 := by
  rcases sgl_sg f with ⟨_, h, _⟩ | ⟨_, h, _⟩ <;> omega

theorem sgl_eq {f : Nat → Bool} {b : Nat} {t : Bool} (h : Sgl f b t) : b = bt f ∧ t = sg f := h.one (sgl_sg f)

/-- Of one byte. -/
theorem sg_one {f : Nat → Bool} {b : Nat} (hb : b < 256) (h : ∀ x, x < 256 → f x = (x == b)) : sg f = true ∧ bt f = b := by
  have := sgl_eq (Or.inl ⟨rfl, hb, h⟩ : Sgl f b true)
  exact ⟨this.2.symm, this.1.symm⟩

/-- Is one of the first n empty? -/
def emp (P : Nat → Nat → Bool) (n : Nat) : Bool := (List.range n).any fun t => sm (P t) (fun _ => false)

def rgt (P : Nat → Nat → Bool) (n : Nat) (K : Int) : Bool := decide (1 ≤ n ∧ n ≤ 64 ∧ 0 ≤ K ∧ K ≤ 64) && !emp P n

def pln (P : Nat → Nat → Bool) (n : Nat) : Bool := (List.range n).all fun t => sg (P t) || fr (P t)

def als (P : Nat → Nat → Bool) (n : Nat) : Bool := (List.range n).all fun t => sg (P t)

def bnd (P : Nat → Nat → Bool) (n : Nat) : Nat := ((List.range n).filter fun t => !fr (P t)).length

def wh (P : Nat → Nat → Bool) (c : Nat → Bool) (n : Nat) : List Nat := (List.range n).filter fun t => sm (P t) c

/-- The kinds among the first n. -/
def kd (P : Nat → Nat → Bool) : Nat → List (Nat → Bool)
  | 0 => []
  | n + 1 => if fr (P n) || (kd P n).any (fun g => sm g (P n)) then kd P n else kd P n ++ [P n]

theorem bnd_zero (P : Nat → Nat → Bool) : bnd P 0 = 0 := rfl

theorem bnd_succ (P : Nat → Nat → Bool) (n : Nat) : bnd P (n + 1) = bnd P n + (!fr (P n)).toNat := by
  unfold bnd
  rw [List.range_succ, List.filter_append, List.length_append]
  cases h : fr (P n) <;> simp [h]

theorem bnd_le (P : Nat → Nat → Bool) (n : Nat) : bnd P n ≤ n := by
  unfold bnd
  have := List.length_filter_le (fun t => !fr (P t)) (List.range n)
  simpa using this

theorem wh_zero (P : Nat → Nat → Bool) (c : Nat → Bool) : wh P c 0 = [] := rfl

theorem wh_succ (P : Nat → Nat → Bool) (c : Nat → Bool) (n : Nat) : wh P c (n + 1) = if sm (P n) c then wh P c n ++ [n] else wh P c n := by
  unfold wh
  rw [List.range_succ, List.filter_append]
  cases h : sm (P n) c <;> simp [h]

theorem wh_len (P : Nat → Nat → Bool) (c : Nat → Bool) (n : Nat) : (wh P c n).length ≤ n := by
  have := List.length_filter_le (fun t => sm (P t) c) (List.range n)
  simpa [wh] using this

theorem kd_len (P : Nat → Nat → Bool) (n : Nat) : (kd P n).length ≤ n := by
  induction n with
  | zero => simp [kd]
  | succ n ih =>
    unfold kd
    split
    · omega
    · rw [List.length_append]; simp; omega

theorem any_range {q : Nat → Bool} {n t : Nat} (ht : t < n) (h : q t = true) : (List.range n).any q = true := by
  rw [List.any_eq_true]
  exact ⟨t, by simpa using ht, h⟩

theorem any_range_no {q : Nat → Bool} {n : Nat} (h : ∀ t, t < n → q t = false) : (List.range n).any q = false := by
  rw [List.any_eq_false]
  intro t ht
  rw [h t (by simpa using ht)]
  simp

theorem all_range {q : Nat → Bool} {n : Nat} (h : ∀ t, t < n → q t = true) : (List.range n).all q = true := by
  rw [List.all_eq_true]
  intro t ht
  exact h t (by simpa using ht)

theorem all_range_no {q : Nat → Bool} {n t : Nat} (ht : t < n) (h : q t = false) : (List.range n).all q = false := by
  rw [List.all_eq_false]
  exact ⟨t, by simpa using ht, by rw [h]; simp⟩

end Cls
end Go.Proofs.YtcohcdebbkfdfaaDoor
