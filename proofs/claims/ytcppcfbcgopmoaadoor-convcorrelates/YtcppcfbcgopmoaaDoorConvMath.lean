/- Plain mathematics of layer 4: sums of products; their residues; a row along another one. No condition; nothing of the program. -/
import Derived.Test.YtcppcfbcgopmoaaDoorNttMath
import Derived.Test.YtcppcfbcgopmoaaDoorCrtMath
namespace Go.Proofs.YtcppcfbcgopmoaaDoor.Res

/-- A row, and zeros behind it. -/
def pd (n : Nat) (a : Nat → Int) : Nat → Int := fun i => if i < n then a i else 0
/-- Place t of the product of two rows. -/
def cv (n m : Nat) (a b : Nat → Int) (t : Nat) : Int := sm n fun i => sm m fun j => if i + j = t then a i * b j else 0
/-- Place i of a row along another one. -/
def cr (n : Nat) (p t : Nat → Int) (i : Nat) : Int := sm n fun j => p j * t (i + j)

theorem sm_trunc {n N : Nat} (h : n ≤ N) {f : Nat → Int} (hf : ∀ i, n ≤ i → i < N → f i = 0) : sm N f = sm n f := by
  obtain ⟨d, rfl⟩ := Nat.exists_eq_add_of_le h
  rw [sm_app, sm_congr (n := d) (g := fun _ => 0) (fun i hi => hf (n + i) (by omega) (by omega)), sm_zero, Int.add_zero]
theorem sm_le {n : Nat} {f g : Nat → Int} (h : ∀ i, i < n → f i ≤ g i) : sm n f ≤ sm n g := by
  induction n with
  | zero => exact Int.le_refl 0
  | succ n ih => exact Int.add_le_add (ih fun i hi => h i (by omega)) (h n (by omega))
theorem sm_nonneg {n : Nat} {f : Nat → Int} (h : ∀ i, i < n → 0 ≤ f i) : 0 ≤ sm n f := by
  have := sm_le (n := n) (f := fun _ => 0) (g := f) h
  rwa [sm_zero] at this
theorem sm_mono {i n : Nat} (hi : i ≤ n) {f : Nat → Int} (h : ∀ t, t < n → 0 ≤ f t) : sm i f ≤ sm n f := by
  obtain ⟨d, rfl⟩ := Nat.exists_eq_add_of_le hi
  rw [sm_app]
  have := sm_nonneg (n := d) (f := fun t => f (i + t)) (fun t ht => h (i + t) (by omega))
  omega
theorem sm_const (n : Nat) (c : Int) : sm n (fun _ => c) = (n : Int) * c := by
  have h := sm_mul_r n c (fun _ => 1)
  rw [sm_one] at h
  rw [← h]
  exact sm_congr fun _ _ => (Int.one_mul c).symm
theorem sm_rev : ∀ (n : Nat) (f : Nat → Int), sm n (fun i => f (n - 1 - i)) = sm n f
  | 0, _ => rfl
  | n + 1, f => by
    have h1 := sm_app 1 n (fun i => f (n + 1 - 1 - i))
    rw [Nat.add_comm 1 n] at h1
    rw [h1]
    have h2 : sm n (fun i => f (n + 1 - 1 - (1 + i))) = sm n f := by
      rw [← sm_rev n f]
      exact sm_congr fun i hi => by rw [show n + 1 - 1 - (1 + i) = n - 1 - i by omega]
    rw [h2]
    show 0 + f (n + 1 - 1 - 0) + sm n f = sm n f + f n
    rw [show n + 1 - 1 - 0 = n by omega]
    omega

theorem cv_comm (n m : Nat) (a b : Nat → Int) (t : Nat) : cv n m a b t = cv m n b a t := by
  unfold cv
  rw [sm_swap]
  exact sm_congr fun j _ => sm_congr fun i _ => by rw [Nat.add_comm i j, Int.mul_comm]
/-- Term by term, as the document sums. -/
def tm (m : Nat) (a b : Nat → Int) (t i : Nat) : Int := if i ≤ t ∧ t - i < m then a i * b (t - i) else 0
theorem cv_row (n m : Nat) (a b : Nat → Int) (t : Nat) : cv n m a b t = sm n (tm m a b t) := by
  unfold cv
  refine sm_congr fun i _ => ?_
  unfold tm
  by_cases h : i ≤ t ∧ t - i < m
  · rw [if_pos h, sm_single h.2 (fun j _ hj => if_neg (by omega)), if_pos (by omega)]
  · rw [if_neg h]
    rw [sm_congr (g := fun _ => 0) (fun j hj => if_neg (by omega)), sm_zero]
theorem tm_nonneg {m : Nat} {a b : Nat → Int} (ha : ∀ i, 0 ≤ a i) (hb : ∀ i, 0 ≤ b i) (t i : Nat) : 0 ≤ tm m a b t i := by
  unfold tm; split
  · exact Int.mul_nonneg (ha _) (hb _)
  · exact Int.le_refl 0
theorem tm_le {m : Nat} {a b : Nat → Int} {X Y : Int} (hb : ∀ i, 0 ≤ b i) (hX : 0 ≤ X) (hY : 0 ≤ Y) (t i : Nat) (hax : a i ≤ X) (hby : ∀ j, j < m → b j ≤ Y) : tm m a b t i ≤ X * Y := by
  unfold tm; split
  · rename_i h
    exact Int.mul_le_mul hax (hby _ h.2) (hb _) hX
  · exact Int.mul_nonneg hX hY
theorem cv_nonneg {n m : Nat} {a b : Nat → Int} (ha : ∀ i, 0 ≤ a i) (hb : ∀ i, 0 ≤ b i) (t : Nat) : 0 ≤ cv n m a b t := by
  rw [cv_row]; exact sm_nonneg fun i _ => tm_nonneg ha hb t i
/-- No more than the greatest ones' product, as often as a has numbers. -/
theorem cv_le {n m : Nat} {a b : Nat → Int} {X Y : Int} (hb : ∀ i, 0 ≤ b i) (hX : 0 ≤ X) (hY : 0 ≤ Y) (hax : ∀ i, i < n → a i ≤ X) (hby : ∀ j, j < m → b j ≤ Y) (t : Nat) : cv n m a b t ≤ (n : Int) * (X * Y) := by
  rw [cv_row, ← sm_const]
  exact sm_le fun i hi => tm_le hb hX hY t i (hax i hi) hby
theorem cv_le' {n m : Nat} {a b : Nat → Int} {X Y : Int} (ha : ∀ i, 0 ≤ a i) (hX : 0 ≤ X) (hY : 0 ≤ Y) (hax : ∀ i, i < n → a i ≤ X) (hby : ∀ j, j < m → b j ≤ Y) (t : Nat) : cv n m a b t ≤ (m : Int) * (X * Y) := by
  rw [cv_comm, Int.mul_comm X Y]
  exact cv_le ha hY hX hby hax t
/-- One sum of the document's, up to a place. -/
theorem part_le {n m i : Nat} (hi : i ≤ n) {a b : Nat → Int} (ha : ∀ i, 0 ≤ a i) (hb : ∀ i, 0 ≤ b i) (t : Nat) : sm i (tm m a b t) ≤ cv n m a b t := by
  rw [cv_row]; exact sm_mono hi fun j _ => tm_nonneg ha hb t j
theorem cv_add (n m : Nat) (a b c : Nat → Int) (t : Nat) : cv n m a (fun i => b i + c i) t = cv n m a b t + cv n m a c t := by
  rw [cv_row, cv_row, cv_row, ← sm_add]
  refine sm_congr fun i _ => ?_
  unfold tm
  split
  · exact Int.mul_add _ _ _
  · rfl
theorem cv_congr {n m : Nat} {a b c d : Nat → Int} (h : ∀ i, i < n → a i = c i) (g : ∀ j, j < m → b j = d j) (t : Nat) : cv n m a b t = cv n m c d t := by
  unfold cv
  exact sm_congr fun i hi => sm_congr fun j hj => by rw [h i hi, g j hj]
/-- Round and round in a row that is long enough, nothing comes round. -/
theorem cyc_cv (k : Int) (n m N : Nat) (hn : 1 ≤ n) (hm : 1 ≤ m) (hN : n + m - 1 ≤ N) (a b : Nat → Int) (t : Nat) : cyc k N (pd n a) (pd m b) t = md k (cv n m a b t) := by
  unfold cyc cv
  congr 1
  rw [sm_trunc (n := n) (by omega) (fun i hi _ => ?_)]
  · refine sm_congr fun i hi => ?_
    rw [sm_trunc (n := m) (by omega) (fun j hj _ => ?_)]
    · refine sm_congr fun j hj => ?_
      rw [Nat.mod_eq_of_lt (by omega), pd, pd, if_pos hi, if_pos hj]
    · rw [show pd m b j = 0 from if_neg (by omega), Int.mul_zero, ite_self]
  · rw [sm_congr (g := fun _ => 0) (fun j _ => by rw [show pd n a i = 0 from if_neg (by omega), Int.zero_mul, ite_self]), sm_zero]
/-- A sum that is below 2^64 is joined of its residues. -/
theorem nm_of {v : Int} (h0 : 0 ≤ v) (h1 : v ≤ 18446744073709551615) : nm (md 0 v) (md 1 v) (md 2 v) = v := nm_back h0 (by omega) (md_md _ _) (md_md _ _) (md_md _ _)
/-- The row the other way round. -/
theorem cr_cv (n m : Nat) (p t : Nat → Int) (i : Nat) (hi : i + n ≤ m) : cv m n t (fun j => p (n - 1 - j)) (i + n - 1) = cr n p t i := by
  rw [cv_comm, cv_row]
  unfold cr
  rw [← sm_rev n (fun j => p j * t (i + j))]
  refine sm_congr fun j hj => ?_
  unfold tm
  rw [if_pos (by omega), show i + n - 1 - j = i + (n - 1 - j) by omega]
theorem cr_nonneg {n : Nat} {p t : Nat → Int} (hp : ∀ i, 0 ≤ p i) (ht : ∀ i, 0 ≤ t i) (i : Nat) : 0 ≤ cr n p t i := sm_nonneg fun _ _ => Int.mul_nonneg (hp _) (ht _)
theorem cr_le {n m : Nat} {p t : Nat → Int} {X Y : Int} (ht : ∀ i, 0 ≤ t i) (hX : 0 ≤ X) (hpx : ∀ i, i < n → p i ≤ X) (hty : ∀ j, j < m → t j ≤ Y) (i : Nat) (hi : i + n ≤ m) : cr n p t i ≤ (n : Int) * (X * Y) := by
  unfold cr
  rw [← sm_const]
  exact sm_le fun j hj => Int.mul_le_mul (hpx j hj) (hty _ (by omega)) (ht _) hX
end Go.Proofs.YtcppcfbcgopmoaaDoor.Res
