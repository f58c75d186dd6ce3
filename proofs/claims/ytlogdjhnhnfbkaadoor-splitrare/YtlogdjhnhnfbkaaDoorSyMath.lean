/- Kinds slid along marks: plain. -/
import Derived.Test.YtlogdjhnhnfbkaaDoorNvA
import Derived.Test.YtlogdjhnhnfbkaaDoorMathA
import Derived.Test.YtlogdjhnhnfbkaaDoorLfOnceM
namespace Go.Proofs.YtlogdjhnhnfbkaaDoor
open Go.RowKit
namespace Cls

/-- Places of a class, slid along its marks: the first m elements. -/
def hk (P : Nat → Nat → Bool) (s : ByteArray) (i : Nat) (c : Nat → Bool) (m : Nat) : Int := Res.cr m (fun j => ((sm (P j) c).toNat : Int)) (fun t => ((c (byt s t)).toNat : Int)) i

theorem hk_zero (P : Nat → Nat → Bool) (s : ByteArray) (i : Nat) (c : Nat → Bool) : hk P s i c 0 = 0 := rfl

theorem hk_succ (P : Nat → Nat → Bool) (s : ByteArray) (i : Nat) (c : Nat → Bool) (m : Nat) : hk P s i c (m + 1) = hk P s i c m + ((sm (P m) c).toNat : Int) * ((c (byt s (i + m))).toNat : Int) := rfl

theorem hk_le (P : Nat → Nat → Bool) (s : ByteArray) (i : Nat) (c : Nat → Bool) (m : Nat) : 0 ≤ hk P s i c m ∧ hk P s i c m ≤ m := by
  induction m with
  | zero => rw [hk_zero]; omega
  | succ m ih =>
    rw [hk_succ]
    cases sm (P m) c <;> cases c (byt s (i + m)) <;> simp <;> omega

/-- Over the classes of a row. -/
def hs (P : Nat → Nat → Bool) (s : ByteArray) (i m : Nat) : List (Nat → Bool) → Int
  | [] => 0
  | c :: L => hk P s i c m + hs P s i m L

theorem hs_nil (P : Nat → Nat → Bool) (s : ByteArray) (i m : Nat) : hs P s i m [] = 0 := rfl

theorem hs_snoc (P : Nat → Nat → Bool) (s : ByteArray) (i m : Nat) (L : List (Nat → Bool)) (c : Nat → Bool) : hs P s i m (L ++ [c]) = hs P s i m L + hk P s i c m := by
  induction L with
  | nil => simp [hs]
  | cons d L ih => rw [List.cons_append, hs, hs, ih]; omega

theorem hs_zero (P : Nat → Nat → Bool) (s : ByteArray) (i : Nat) (L : List (Nat → Bool)) : hs P s i 0 L = 0 := by
  induction L with
  | nil => rfl
  | cons c L ih => rw [hs, ih, hk_zero]; rfl

theorem cnt_cons (L : List (Nat → Bool)) (g x : Nat → Bool) : cnt (g :: L) x = (sm x g).toNat + cnt L x := by
  unfold cnt
  rw [List.filter_cons]
  cases h : sm x g <;> simp; omega

/-- One element more. -/
theorem hs_succ (P : Nat → Nat → Bool) (s : ByteArray) (i m : Nat) (L : List (Nat → Bool)) : hs P s i (m + 1) L = hs P s i m L + (cnt L (P m) : Int) * ((P m (byt s (i + m))).toNat : Int) := by
  induction L with
  | nil => simp [hs, cnt_nil]
  | cons c L ih =>
    rw [hs, hs, hk_succ, ih, cnt_cons]
    have e : ((sm (P m) c).toNat : Int) * ((c (byt s (i + m))).toNat : Int) = ((sm (P m) c).toNat : Int) * ((P m (byt s (i + m))).toNat : Int) := by
      cases h : sm (P m) c with
      | false => simp
      | true => rw [(sm_iff _ _).1 h _ (byt_lt s (i + m))]
    rw [e, Int.natCast_add, Int.add_mul]
    omega

theorem kd_once (P : Nat → Nat → Bool) {n t : Nat} (h : t < n) : cnt (kd P n) (P t) = (!fr (P t)).toNat := by
  have := tq_end P h
  unfold tq at this
  rwa [List.take_length] at this

/-- All kinds together are what is not missed of the bound ones. -/
theorem hs_kinds (P : Nat → Nat → Bool) (s : ByteArray) (i n : Nat) : ∀ m, m ≤ n → hs P s i m (kd P n) = (bnd P m : Int) - (mis P s i m : Int)
  | 0, _ => by rw [hs_zero, bnd_zero, mis_zero]; rfl
  | m + 1, h => by
    rw [hs_succ, hs_kinds P s i n m (by omega), bnd_succ, mis_succ, kd_once P (by omega)]
    cases hf : fr (P m) with
    | true =>
      rw [(fr_iff (P m)).1 hf _ (byt_lt s (i + m))]
      simp
    | false =>
      cases P m (byt s (i + m)) <;> simp <;> omega

theorem hs_kinds' (P : Nat → Nat → Bool) (s : ByteArray) (i n : Nat) : hs P s i n (kd P n) = (bnd P n : Int) - (mis P s i n : Int) := hs_kinds P s i n n (Nat.le_refl _)

theorem hs_app (P : Nat → Nat → Bool) (s : ByteArray) (i m : Nat) (L M : List (Nat → Bool)) : hs P s i m (L ++ M) = hs P s i m L + hs P s i m M := by
  induction L with
  | nil => simp [hs]
  | cons c L ih => rw [List.cons_append, hs, hs, ih]; omega

/-- Kinds that are parted in two. -/
theorem hs_parts (P : Nat → Nat → Bool) (s : ByteArray) (i m : Nat) (q : (Nat → Bool) → Bool) (L : List (Nat → Bool)) : hs P s i m (L.filter q) + hs P s i m (L.filter fun c => !q c) = hs P s i m L := by
  induction L with
  | nil => rfl
  | cons c L ih =>
    cases h : q c <;> simp only [List.filter_cons, h, Bool.not_false, Bool.not_true, if_true, hs] <;> simp <;> (try simp only [hs]) <;> omega

/-- How many of the first m elements whose class is one of L are not missed. -/
def rre (P : Nat → Nat → Bool) (s : ByteArray) (i : Nat) (L : List (Nat → Bool)) : Nat → Nat
  | 0 => 0
  | m + 1 => rre P s i L m + (L.any (fun g => sm (P m) g) && P m (byt s (i + m))).toNat
  termination_by m => m

theorem rre_zero (P : Nat → Nat → Bool) (s : ByteArray) (i : Nat) (L : List (Nat → Bool)) : rre P s i L 0 = 0 := by rw [rre]

theorem rre_succ (P : Nat → Nat → Bool) (s : ByteArray) (i : Nat) (L : List (Nat → Bool)) (m : Nat) : rre P s i L (m + 1) = rre P s i L m + (L.any (fun g => sm (P m) g) && P m (byt s (i + m))).toNat := by rw [rre]

theorem cnt_any {L : List (Nat → Bool)} {x : Nat → Bool} (h : cnt L x ≤ 1) : (cnt L x : Int) = ((L.any fun g => sm x g).toNat : Int) := by
  cases e : (L.any fun g => sm x g) with
  | true =>
    rw [List.any_eq_true] at e
    obtain ⟨g, hg, hs⟩ := e
    have := cnt_pos hg hs
    simp
    omega
  | false =>
    rw [List.any_eq_false] at e
    rw [cnt_none (fun g hg => by simpa using e g hg)]
    rfl

/-- Where no element is of two of L. -/
theorem rre_hs (P : Nat → Nat → Bool) (s : ByteArray) (i : Nat) (L : List (Nat → Bool)) : ∀ m, (∀ t, t < m → cnt L (P t) ≤ 1) → (rre P s i L m : Int) = hs P s i m L
  | 0, _ => by rw [rre_zero, hs_zero]; rfl
  | m + 1, h => by
    rw [rre_succ, hs_succ, ← rre_hs P s i L m (fun t ht => h t (by omega)), cnt_any (h m (by omega))]
    cases L.any (fun g => sm (P m) g) <;> cases P m (byt s (i + m)) <;> simp

theorem cnt_filter (L : List (Nat → Bool)) (q : (Nat → Bool) → Bool) (x : Nat → Bool) : cnt (L.filter q) x ≤ cnt L x := by
  unfold cnt
  rw [List.filter_filter]
  have : (L.filter fun a => sm x a && q a) = (L.filter fun g => sm x g).filter q := by rw [List.filter_filter]; exact List.filter_congr (fun a _ => Bool.and_comm _ _)
  rw [this]
  exact List.length_filter_le _ _

theorem mis_sm (P : Nat → Nat → Bool) (s : ByteArray) (i : Nat) : ∀ m, (mis P s i m : Int) = Res.sm m (fun j => ((!P j (byt s (i + j))).toNat : Int))
  | 0 => by rw [mis_zero]; rfl
  | m + 1 => by rw [mis_succ, Int.natCast_add, mis_sm P s i m]; rfl

/-- A leaf and a text, both the other way round. -/
theorem mis_turn {P Q : Nat → Nat → Bool} {s u : ByteArray} {n N i : Nat} (hQ : ∀ t, t < n → Q t = P (n - 1 - t)) (hu : ∀ t, t < N → byt u t = byt s (N - 1 - t)) (hi : i + n ≤ N) : mis Q u i n = mis P s (N - n - i) n := by
  have h : (mis Q u i n : Int) = (mis P s (N - n - i) n : Int) := by
    rw [mis_sm, mis_sm, ← Res.sm_rev n (fun j => ((!P j (byt s (N - n - i + j))).toNat : Int))]
    refine Res.sm_congr (fun j hj => ?_)
    rw [hQ j hj, hu (i + j) (by omega), show N - 1 - (i + j) = N - n - i + (n - 1 - j) by omega]
  omega

theorem sum_cnt (L M : List (Nat → Bool)) : (L.map (cnt M)).sum = (M.map (cnt L)).sum := by
  induction L with
  | nil =>
    have : ∀ M : List (Nat → Bool), (M.map (cnt [])).sum = 0 := fun M => by
      induction M with
      | nil => rfl
      | cons g M ih => rw [List.map_cons, List.sum_cons, ih, cnt_nil]
    rw [this]
    rfl
  | cons g L ih =>
    rw [List.map_cons, List.sum_cons, ih]
    clear ih
    induction M with
    | nil => rfl
    | cons h M ih =>
      rw [List.map_cons, List.sum_cons, List.map_cons, List.sum_cons, cnt_cons, cnt_cons, ← ih, sm_comm h g]
      omega

theorem sum_one {L : List (Nat → Bool)} {f : (Nat → Bool) → Nat} (h : ∀ x ∈ L, f x = 1) : (L.map f).sum = L.length := by
  induction L with
  | nil => rfl
  | cons g L ih =>
    rw [List.map_cons, List.sum_cons, ih (fun x hx => h x (List.mem_cons_of_mem _ hx)), h g (List.mem_cons_self ..), List.length_cons]
    omega

theorem kd_has (P : Nat → Nat → Bool) : ∀ n, ∀ g ∈ kd P n, has P n g = true
  | 0 => by simp [kd]
  | n + 1 => by
    intro g hg
    rw [has_succ]
    unfold kd at hg
    split at hg
    · rw [kd_has P n g hg]; rfl
    · rw [List.mem_append] at hg
      rcases hg with hg | hg
      · rw [kd_has P n g hg]; rfl
      · rw [List.mem_singleton] at hg
        subst hg
        rw [sm_refl, Bool.or_true]

/-- Rows of the same elements have as many kinds. -/
theorem kd_same {P Q : Nat → Nat → Bool} {n m : Nat} (h : ∀ x, has P n x = has Q m x) : (kd P n).length = (kd Q m).length := by
  have h1 : ((kd P n).map (cnt (kd Q m))).sum = (kd P n).length := sum_one (fun x hx => by
    rw [kd_cnt Q x (kd_bound P n x hx) m, ← h, kd_has P n x hx]
    rfl)
  have h2 : ((kd Q m).map (cnt (kd P n))).sum = (kd Q m).length := sum_one (fun x hx => by
    rw [kd_cnt P x (kd_bound Q m x hx) n, h, kd_has Q m x hx]
    rfl)
  rw [← h1, ← h2]
  exact sum_cnt _ _

theorem has_turn {P Q : Nat → Nat → Bool} {n : Nat} (hQ : ∀ t, t < n → Q t = P (n - 1 - t)) (x : Nat → Bool) : has Q n x = has P n x := by
  rw [Bool.eq_iff_iff]
  unfold has
  rw [List.any_eq_true, List.any_eq_true]
  constructor
  · rintro ⟨t, ht, h⟩
    have ht' : t < n := by simpa using ht
    exact ⟨n - 1 - t, by simp; omega, by rw [← hQ t ht']; exact h⟩
  · rintro ⟨t, ht, h⟩
    have ht' : t < n := by simpa using ht
    exact ⟨n - 1 - t, by simp; omega, by rw [hQ (n - 1 - t) (by omega), show n - 1 - (n - 1 - t) = t by omega]; exact h⟩

theorem emp_turn {P Q : Nat → Nat → Bool} {n : Nat} (hQ : ∀ t, t < n → Q t = P (n - 1 - t)) : emp Q n = emp P n := has_turn hQ (fun _ => false)

end Cls
end Go.Proofs.YtlogdjhnhnfbkaaDoor
