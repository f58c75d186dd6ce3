/- Contracts of ntt.Cyclic and of the document's own Cyclic. -/
import Derived.Test.YtcppcfbcgopmoaaDoorNttRef2
namespace Go.Proofs.YtcppcfbcgopmoaaDoor
open Go.RowKit Res
attribute [local go_sem ↓] Go.wp_at_zero Go.wp_at_succ

/-- The product by transforms is the product that goes round. -/
theorem idft_mul (k : Int) (hp : pr k ≠ 0) (m n : Nat) (hn : n = 2 ^ m) (hm : m ≤ 12) (a b : Nat → Int) (t : Nat) (ht : t < n) : idft k m n (fun t => md k (dft k (rt k m) n a t * dft k (rt k m) n b t)) t = cyc k n a b t := by
  subst hn
  have h1 : (fun t => md k (dft k (rt k m) (2 ^ m) a t * dft k (rt k m) (2 ^ m) b t)) = dft k (rt k m) (2 ^ m) (cyc k (2 ^ m) a b) := by
    funext t
    exact (cyc_dft k (rt k m) (2 ^ m) (Nat.one_le_two_pow) (rt_full k hp m hm) a b t).symm
  unfold idft
  rw [h1]
  refine (dft_back k (rt k m) (ivr k m) (ivn k m) hp m (fun e => by subst e; exact rt_zero k hp) (rt_half k hp m hm) (ivr_mul k hp m hm) (ivn_mul k hp m hm) _ t ht).trans ?_
  exact md_md _ _

set_option maxHeartbeats 400000 in
theorem cyclic_noprime (k : Int) (ao : Option Addr) (n c : Nat) (v : Value) (w : World) (hT : Tab w) (hp : pr k = 0) :
    Calls Tryd.prog 27 #[.int .i64 k, .slice ao n c, v] w fun e w' => e = .returned (.tuple #[.slice none 0 0, .int .i64 20]) ∧ w' = w := by
  have c1 : Hid _ := rootFor_noprime k n w hT hp
  clear hp
  go_enter Tryd.func27, Tryd.ntmps27
  go_wp2_with fail
  refine Calls.mono (Hid.out c1) ?_; rintro e w' ⟨rfl, hw'⟩; subst w'
  go_wp2_with fail
  go_ret2
  exact ⟨rfl, rfl⟩

set_option maxHeartbeats 400000 in
theorem cyclic_nolen (k : Int) (ao : Option Addr) (n c : Nat) (v : Value) (w : World) (hT : Tab w) (hp : pr k ≠ 0) (hn : NoLog n) :
    Calls Tryd.prog 27 #[.int .i64 k, .slice ao n c, v] w fun e w' => e = .returned (.tuple #[.slice none 0 0, .int .i64 21]) ∧ w' = w := by
  have c1 : Hid _ := rootFor_nolen k n w hT hp hn
  clear hp hn
  go_enter Tryd.func27, Tryd.ntmps27
  go_wp2_with fail
  refine Calls.mono (Hid.out c1) ?_; rintro e w' ⟨rfl, hw'⟩; subst w'
  go_wp2_with fail
  go_ret2
  exact ⟨rfl, rfl⟩

set_option maxHeartbeats 400000 in
theorem cyclic_other (k : Int) (ao bo : Option Addr) (n c nb cb : Nat) (m : Nat) (w : World) (hT : Tab w) (hp : pr k ≠ 0) (hn : n = 2 ^ m) (hm : m ≤ 12) (hne : nb ≠ n) :
    Calls Tryd.prog 27 #[.int .i64 k, .slice ao n c, .slice bo nb cb] w fun e w' => e = .returned (.tuple #[.slice none 0 0, .int .i64 21]) ∧ w' = w := by
  have c1 : Hid _ := rootFor_yes k n m w hT hp hm (pow_cast hn)
  have hb : ((nb : Int) == (n : Int)) = false := beq_eq_false_iff_ne.2 (by omega)
  clear hp hn hne
  generalize rt k m = x at *
  go_enter Tryd.func27, Tryd.ntmps27
  go_wp2_with fail
  refine Calls.mono (Hid.out c1) ?_; rintro e w' ⟨rfl, hw'⟩; subst w'
  go_wp2_with fail
  go_ret2
  exact ⟨rfl, rfl⟩

set_option maxHeartbeats 1000000 in
theorem cyclic_yes (k : Int) (hp : pr k ≠ 0) (m n : Nat) (hn : n = 2 ^ m) (hm : m ≤ 12) (ab ao ac bb bo bc : Nat) (a b : Nat → Int) (ha0 : ∀ t, 0 ≤ a t) (hb0 : ∀ t, 0 ≤ b t) (w : World) (hT : Tab w) (ha : Fam w ab ao n a) (hb : Fam w bb bo n b) :
    Calls Tryd.prog 27 #[.int .i64 k, .slice (some ⟨ab, ao, none⟩) n ac, .slice (some ⟨bb, bo, none⟩) n bc] w fun e w' =>
      ∃ g, e = .returned (.tuple #[.slice (some ⟨g, 0, none⟩) n n, .int .i64 0]) ∧ w.heap.size ≤ g ∧ g < w'.heap.size ∧ Fam w' g 0 n (cyc k n a b) ∧ Below w.heap.size w w' := by
  have hle : n ≤ 4096 := by rw [hn]; exact Nat.pow_le_pow_right (by omega) hm
  have hpos : 1 ≤ n := by rw [hn]; exact Nat.one_le_two_pow
  have hlt := tab_lt hT
  have hbb : bb < w.heap.size := hb.lt (by omega)
  have c1 : Hid _ := rootFor_yes k n m w hT hp hm (pow_cast hn)
  have c2 : Hid _ := transformed_any k hp m n hn hm (rt k m) (rt_nonneg _ _) (rt_half k hp m hm) ab ao ac a ha0 w hT ha
  have c3 : Hid _ := fun (v : World) (hv : Tab v) (hb : Fam v bb bo n b) => transformed_any k hp m n hn hm (rt k m) (rt_nonneg _ _) (rt_half k hp m hm) bb bo bc b hb0 v hv hb
  have c4 : Hid _ := fun (v : World) (hv : Tab v) (lb : Nat) (hl : Fam v lb 0 n (fun t => md k (dft k (rt k m) n a t * dft k (rt k m) n b t))) => inverse_yes k hp m n hn hm lb 0 n _ (fun t => md_nonneg _ _) v hv hl
  have hfin : Hid (∀ t, t < n → idft k m n (fun t => md k (dft k (rt k m) n a t * dft k (rt k m) n b t)) t = cyc k n a b t) := fun t ht => idft_mul k hp m n hn hm a b t ht
  have hA0 : ∀ t, 0 ≤ dft k (rt k m) n a t := fun t => dft_nonneg _ _ _ _ _
  have hB0 : ∀ t, 0 ≤ dft k (rt k m) n b t := fun t => dft_nonneg _ _ _ _ _
  clear hp hn ha0 hb0 ha
  generalize dft k (rt k m) n a = A at *
  generalize dft k (rt k m) n b = B at *
  generalize cyc k n a b = C at *
  generalize rt k m = x at *
  have Hb : Hid (Fam w bb bo n b) := hb
  clear hb
  go_enter Tryd.func27, Tryd.ntmps27
  go_wp2_with fail
  refine Calls.mono (Hid.out c1) ?_; rintro e w' ⟨rfl, hw'⟩; subst w'
  go_wp2_with fail
  refine Calls.mono (Hid.out c2) ?_; rintro e w1 ⟨rfl, h1, h2, h3, h4⟩
  have hT1 : Tab w1 := hT.below h3 hlt
  have hlt1 := tab_lt hT1
  have F1 : Hid (Fam w1 w.heap.size 0 n A) := h1
  have W1 : Hid (Wrt w1 w.heap.size 0 n) := h2
  have B1 : Hid (Below w.heap.size w w1) := h3
  have Hb1 : Hid (Fam w1 bb bo n b) := Hb.out.below h3 hbb
  clear h1 h2 h3
  go_wp2_with fail
  refine Calls.mono (Hid.out (c3.out w1 hT1 Hb1.out)) ?_; rintro e w2 ⟨rfl, h1, h2, h3, h5⟩
  have hT2 : Tab w2 := hT1.below h3 hlt1
  have F2 : Hid (Fam w2 w1.heap.size 0 n B) := h1
  have F0 : Hid (Fill w2 w2 w.heap.size n 0 (fun t => md k (A t * B t)) A) := Fill.start _ (F1.out.below h3 h4) (W1.out.below h3 h4)
  have B2 : Hid (Below w.heap.size w w2) := B1.out.trans (h3.mono (by omega))
  clear h1 h2 h3 F1 W1 B1 Hb1 Hb hT hT1 c1 c2 c3
  go_wp2_with fail
  go_loopw [38] (fun vi wr => ∃ i : Nat, i ≤ n ∧ vi = .int .i64 i ∧ Fill w2 wr w.heap.size n i (fun t => md k (A t * B t)) A) (fun vi _ => n - (intOf vi).toNat)
  case atStart => exact ⟨0, Nat.zero_le _, rfl, F0.out⟩
  case round =>
    obtain ⟨i, hi, rfl, hF⟩ := hrel
    have HF : Hid _ := hF
    have hf := hF.wrt.zero
    have hTr : Tab wr := hT2.wrote hF.wrote (fun o e => by omega)
    by_cases hlt2 : i < n
    · have hcA : wr.cell? ⟨w.heap.size, i, none⟩ = some (.int .u64 (A i)) := by rw [hF.fam.zero i hlt2, mix_hi (Nat.le_refl _)]
      have hcB : wr.cell? ⟨w1.heap.size, i, none⟩ = some (.int .u64 (B i)) := (hF.wrote.fam F2.out (fun t _ e => by omega)).zero i hlt2
      have HS : Hid _ := (HF.out.step hlt2 (x := md k (A i * B i)) rfl).drew
      have hAi := hA0 i
      have hBi := hB0 i
      have hfi := hf i hlt2
      have hin : (i : Int) < (n : Int) := by omega
      have hi0 : (0 : Int) ≤ (i : Int) := by omega
      clear HF hF hf
      go_wp2_with fail
      go_region_with ((go_at_call 35; refine (mul_any k (A i) (B i) _ ?hT hAi hBi).mono ?_; (case hT => exact hTr); rintro e w' ⟨rfl, hw'⟩; subst w'))
      all_goals
        go_wp2_with fail
        go_roundw
        case rel => exact ⟨i + 1, by omega, by go_num, HS.out⟩
        case measure => simp [intOf]; omega
    · have hfw : Fam wr w.heap.size 0 n (fun t => md k (A t * B t)) := HF.out.fin (by omega)
      have B3 : Hid (Below w.heap.size w wr) := B2.out.trans (hF.wrote.below (fun b o e => by omega))
      have hsz : wr.heap.size = w2.heap.size := hF.wrote.size
      have Hsz : Hid (wr.heap.size = w2.heap.size) := hsz
      have c5 : Hid _ := c4.out wr hTr w.heap.size hfw
      clear hF HF hf hfw c4 hsz
      go_wp2_with fail
      refine Calls.mono (Hid.out c5) ?_; rintro e w3 ⟨rfl, h1, h2, h3, h6⟩
      have F3 : Hid (Fam w3 wr.heap.size 0 n C) := h1.congr hfin.out
      have B4 : Hid (Below w.heap.size w w3) := B3.out.trans (h3.mono (by rw [Hsz.out]; omega))
      have hge : w.heap.size ≤ wr.heap.size := by rw [Hsz.out]; omega
      clear h1 h2 h3
      go_wp2_with fail
      go_ret2
      exact ⟨_, rfl, hge, h6, F3.out, B4.out⟩

/-! the document's own -/
def cyp (k : Int) (n : Nat) (a b : Nat → Int) (i j t : Nat) : Int :=
  md k (sm i (fun i' => sm n fun j' => if (i' + j') % n = t then a i' * b j' else 0) + sm j (fun j' => if (i + j') % n = t then a i * b j' else 0))
theorem cyp_nonneg (k : Int) (n : Nat) (a b : Nat → Int) (i j t : Nat) : 0 ≤ cyp k n a b i j t := md_nonneg _ _
theorem cyp_at (k : Int) (n : Nat) (a b : Nat → Int) (i j t : Nat) (h : t = (i + j) % n) : md k (cyp k n a b i j t + md k (a i * b j)) = cyp k n a b i (j + 1) t := by
  subst h
  unfold cyp
  rw [md_add, sm, if_pos rfl, Int.add_assoc]
theorem cyp_off (k : Int) (n : Nat) (a b : Nat → Int) (i j t : Nat) (h : t ≠ (i + j) % n) : cyp k n a b i (j + 1) t = cyp k n a b i j t := by
  unfold cyp
  rw [sm, if_neg (fun e => h e.symm), Int.add_zero]
theorem cyp_row (k : Int) (n : Nat) (a b : Nat → Int) (i t : Nat) : cyp k n a b i n t = cyp k n a b (i + 1) 0 t := by
  unfold cyp
  rw [sm, sm, Int.add_zero]
theorem cyp_zero (k : Int) (n : Nat) (a b : Nat → Int) (t : Nat) : cyp k n a b 0 0 t = 0 := md_zero k
theorem cyp_fin (k : Int) (n : Nat) (a b : Nat → Int) (t : Nat) : cyp k n a b n 0 t = cyc k n a b t := by
  unfold cyp cyc
  rw [sm, Int.add_zero]
/-- A row at the head of block g, and what else is as it was. -/
structure RowAt (w1 wr : World) (g n : Nat) (G : Nat → Int) : Prop where
  fam : Fam wr g 0 n G
  wrt : Wrt wr g 0 n
  wrote : Wrote (fun b _ => b = g) w1 wr
theorem RowAt.step {w1 wr : World} {g n q : Nat} {G H : Nat → Int} {x : Int} (h : RowAt w1 wr g n G) (hq : q < n) (hx : x = H q) (ho : ∀ t, t < n → t ≠ q → H t = G t) : RowAt w1 (wr.setCell ⟨g, q, none⟩ (.int .u64 x)).drew g n H := by
  refine ⟨((h.fam.setCell_at hq (by omega) x).congr (fun t ht => ?_)).drew, (h.wrt.setCell _ _).drewN 1, (h.wrote.setCell rfl _).drew⟩
  by_cases e : t = q
  · subst e; rw [upd_at]; exact hx
  · rw [upd_off e, ho t ht e]
end Go.Proofs.YtcppcfbcgopmoaaDoor
