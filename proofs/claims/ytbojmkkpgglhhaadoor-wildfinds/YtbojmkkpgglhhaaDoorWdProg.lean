/- Contracts of wild.Value, wild.elementValues, wild.letterValues, wild.squares, wild.Weight. -/
import Derived.Test.YtbojmkkpgglhhaaDoorWdMath
import Derived.Test.YtbojmkkpgglhhaaDoorLfA
import Derived.Test.YtbojmkkpgglhhaaDoorConvLaw
import Derived.Test.YtbojmkkpgglhhaaDoorNvAl
namespace Go.Proofs.YtbojmkkpgglhhaaDoor
open Go.RowKit Res
namespace Cls

set_option maxHeartbeats 1000000 in
theorem value_any (f : Nat → Bool) (w : World) (hT : TabB w) :
    Calls Tryd.prog 11 #[.agg #[.int .u64 ((wd (f) 0 : Nat) : Int), .int .u64 ((wd (f) 1 : Nat) : Int), .int .u64 ((wd (f) 2 : Nat) : Int), .int .u64 ((wd (f) 3 : Nat) : Int)]] w fun e w' => e = .returned (.int .u64 ((vl f : Nat) : Int)) ∧ Below w.heap.size w w' := by
  obtain ⟨w1, b1⟩ := box w f
  have E1 : Hid _ := b1.eq
  have B1 : Hid (Below w.heap.size w w1) := b1.bel
  obtain ⟨a0, a1, a2, a3⟩ := c4 b1.fam
  have cs : Hid _ := single_sg f w1 (hT.grow b1.bel)
  have hb := bt_lt f
  clear b1 hT
  cases hs : sg f with
  | true =>
    have HV : Hid (vl f = bt f + 1) := vl_one hs
    rw [hs] at cs
    go_enter Tryd.func11, Tryd.ntmps11
    go_wp2_with (first | rw [← E1.out])
    refine Calls.mono (Hid.out cs) ?_; rintro e w2 ⟨rfl, b2⟩
    have B2 : Hid (Below w.heap.size w w2) := B1.out.trans (b2.mono B1.out.size)
    clear b2 a0 a1 a2 a3
    go_wp2_with fail
    go_ret
    exact ⟨by rw [HV.out]; go_num, B2.out⟩
  | false =>
    have HV : Hid (vl f = 0) := vl_none hs
    rw [hs] at cs
    go_enter Tryd.func11, Tryd.ntmps11
    go_wp2_with (first | rw [← E1.out])
    refine Calls.mono (Hid.out cs) ?_; rintro e w2 ⟨rfl, b2⟩
    have B2 : Hid (Below w.heap.size w w2) := B1.out.trans (b2.mono B1.out.size)
    clear b2 a0 a1 a2 a3
    go_wp2_with fail
    go_ret
    exact ⟨by rw [HV.out]; rfl, B2.out⟩

/-- A new row while it is being filled. -/
structure Fu (w wr : World) (b n k : Nat) (F : Nat → Int) : Prop where
  bel : Below w.heap.size w wr
  lt : b < wr.heap.size
  fam : Fam wr b 0 n (mix k F (fun _ => 0))
  wrt : Wrt wr b 0 n

theorem Fu.grow {w wr w' : World} {b n k : Nat} {F : Nat → Int} (h : Fu w wr b n k F) (hb : Below wr.heap.size wr w') : Fu w w' b n k F :=
  ⟨h.bel.trans (hb.mono h.bel.size), Nat.lt_of_lt_of_le h.lt hb.size, h.fam.below hb h.lt, h.wrt.below hb h.lt⟩

theorem Fu.put {w wr : World} {b n k : Nat} {F : Nat → Int} (h : Fu w wr b n k F) (hb : w.heap.size ≤ b) (hk : k < n) {x : Int} (hx : x = F k) : Fu w (wr.setCell ⟨b, k, none⟩ (.int .u64 x)) b n (k + 1) F := by
  have hw : Wrote (fun b' _ => b' = b) wr (wr.setCell ⟨b, k, none⟩ (.int .u64 x)) := (Wrote.refl (fun b' _ => b' = b) wr).setCell rfl _
  refine ⟨h.bel.trans (hw.below (fun b' o e => by omega)), by rw [hw.size]; exact h.lt, (h.fam.setCell_at hk (by omega) x).congr (fun t _ => ?_), h.wrt.setCell _ _⟩
  by_cases e : t = k
  · subst e; rw [upd_at, mix_lo (by omega)]; exact hx
  · rw [upd_off e]
    by_cases e2 : t < k
    · rw [mix_lo e2, mix_lo (by omega)]
    · rw [mix_hi (by omega), mix_hi (by omega)]

theorem Fu.cell {w wr : World} {b n k : Nat} {F : Nat → Int} (h : Fu w wr b n k F) (hk : k < n) : wr.cell? ⟨b, k, none⟩ = some (.int .u64 0) := by
  rw [h.fam.zero k hk, mix_hi (Nat.le_refl _)]

/-- A new row is told. -/
def New (w : World) (n : Nat) (F : Nat → Int) (e : Ending) (w' : World) : Prop :=
  ∃ g, e = .returned (.slice (some ⟨g, 0, none⟩) n n) ∧ Fam w' g 0 n F ∧ w.heap.size ≤ g ∧ g < w'.heap.size ∧ Below w.heap.size w w'

theorem Fu.new {w wr : World} {b n : Nat} {F : Nat → Int} (h : Fu w wr b n n F) (hb : w.heap.size ≤ b) : New w n F (.returned (.slice (some ⟨b, 0, none⟩) n n)) wr :=
  ⟨b, rfl, h.fam.congr (fun _ ht => mix_lo ht), hb, h.lt, h.bel⟩

/-- What 'make' lays. -/
theorem fu_made (w v : World) (n : Nat) (F : Nat → Int) (hb : Below w.heap.size w v) : Fu w (v.alloc (.cells (madeCells #[.int .u64 0] n) 22)) v.heap.size n 0 F :=
  ⟨hb.alloc hb.size _, by rw [size_alloc]; omega, by rw [mix_zero]; exact fam_made v n _, wrt_made v n _⟩

theorem makeU (n : Nat) (hn : n ≤ 1000000) (w : World) : (Instr.makeSlice 33 (.int .i64 (n : Int)) (.int .i64 (n : Int))).run Tryd.prog w = .ok (.slice (some ⟨w.heap.size, 0, none⟩) n n) (w.alloc (.cells (madeCells #[.int .u64 0] n) 22)) :=
  run_make_row' (P := Tryd.prog) 33 22 (.int .u64 0) 8 Tryd.underlying33 infoU rfl .i64 .i64 n (by omega) (by omega) w

set_option maxHeartbeats 2000000 in
theorem elems_any (P : Nat → Nat → Bool) (n cap : Nat) (ao : Option Addr) (K : Int) (hn : n ≤ 1000000) (w : World) (hT : TabB w) (hl : Lf w ao n P) :
    Calls Tryd.prog 28 #[.agg #[.slice ao n cap, .int .i64 K]] w (New w n fun t => ((vl (P t) : Nat) : Int)) := by
  obtain ⟨w1, b1⟩ := lbox w (.slice ao n cap) (.int .i64 K)
  have hmk := makeU n hn
  have hfu := fu_made w w1 n (fun t => ((vl (P t) : Nat) : Int)) b1.bel
  have bel : Below w1.heap.size w1 (w1.alloc (.cells (madeCells #[.int .u64 0] n) 22)) := (Below.refl _ _).alloc (Nat.le_refl _) _
  generalize Obj.cells (madeCells #[.int .u64 0] n) 22 = ob at *
  obtain ⟨w2, e2⟩ : ∃ w2, w2 = w1.alloc ob := ⟨_, rfl⟩
  rw [← e2] at hfu bel
  have E1 : Hid _ := b1.eq
  have E2 : Hid _ := e2
  have s1 : w.heap.size < w1.heap.size := by have := b1.size; omega
  have hC1 := two_below ⟨b1.c0, b1.c1⟩ bel s1
  have c1 := hC1.1
  have k0 := b1.c0
  have HF : Hid _ := hfu
  have HG : Hid (w.heap.size ≤ w1.heap.size) := Nat.le_of_lt s1
  have HL : Hid (Lf w ao n P) := hl
  have HT : Hid (TabB w) := hT
  clear b1 hfu bel e2 hl hT
  go_enter Tryd.func28, Tryd.ntmps28
  go_wp2_with (first | rw [← E1.out] | rw [← E2.out])
  clear E1 E2 hmk c1 k0 hC1
  generalize w1.heap.size = g at *
  go_loopw [13] (fun vk wr => ∃ k : Nat, k ≤ n ∧ vk = .int .i64 k ∧ Fu w wr g n k (fun t => ((vl (P t) : Nat) : Int))) (fun vk _ => n - (intOf vk).toNat)
  case atStart => exact ⟨0, Nat.zero_le _, rfl, HF.out⟩
  case round =>
    obtain ⟨k, hk, rfl, hF⟩ := hrel
    have HFr : Hid _ := hF
    have HLr : Hid (Lf wr ao n P) := HL.out.grow hF.bel
    have HTr : Hid (TabB wr) := HT.out.grow hF.bel
    clear hF
    by_cases hkn : k < n
    · obtain ⟨b, o, rfl, hb, hC⟩ := HLr.out.lies (by omega)
      obtain ⟨c0, c1, c2, c3⟩ := hC.four hkn
      have hkI : (k : Int) < (n : Int) := by omega
      obtain ⟨w3, b3⟩ := box wr (P k)
      have E3 : Hid _ := b3.eq
      have F3 : Hid _ := HFr.out.grow b3.bel
      obtain ⟨a0, a1, a2, a3⟩ := c4 b3.fam
      have cv : Hid _ := value_any (P k) w3 (HTr.out.grow b3.bel)
      clear hC b3
      go_wp2_with (first | rw [← E3.out])
      refine Calls.mono (Hid.out cv) ?_; rintro e w4 ⟨rfl, b4⟩
      have F4 : Hid _ := F3.out.grow b4
      have hc := F4.out.cell hkn
      have hf := F4.out.wrt.zero k hkn
      have F5 : Hid (Fu w (w4.setCell ⟨g, k, none⟩ (.int .u64 ((vl (P k) : Nat) : Int))) g n (k + 1) (fun t => ((vl (P t) : Nat) : Int))) := F4.out.put HG.out hkn rfl
      clear b4
      go_wp2_with fail
      go_roundw
      case rel => exact ⟨k + 1, by omega, by go_num, F5.out⟩
      case measure => simp [intOf]; omega
    · obtain rfl : k = n := by omega
      have HN : Hid _ := HFr.out.new HG.out
      go_wp2_with fail
      go_ret
      exact HN.out

theorem vl_tx (s : ByteArray) (k : Nat) (h : k < s.size) : vl (tx s k) = byt s k + 1 := by
  rcases sgl_sg (tx s k) with ⟨hs, hlt, hx⟩ | ⟨hs, _, _⟩
  · rw [vl_one hs]
    have hb := byt_lt s k
    have h1 := hx (byt s k) hb
    rw [tx_byt s k h] at h1
    have h2 : (byt s k == bt (tx s k)) = true := by rw [← h1]; simp
    have h3 : byt s k = bt (tx s k) := by simpa using h2
    omega
  · have := (sg_one (b := byt s k) (byt_lt s k) (fun x _ => tx_byt s k h x)).1
    rw [this] at hs
    cases hs

set_option maxHeartbeats 2000000 in
theorem letvals_any (s : ByteArray) (hs : s.size ≤ 1000000) (w : World) (hT : TabB w) :
    Calls Tryd.prog 31 #[.string s] w (New w s.size fun t => ((byt s t : Nat) : Int) + 1) := by
  have hmk := makeU s.size hs
  have hfu := fu_made w w s.size (fun t => ((byt s t : Nat) : Int) + 1) (Below.refl _ _)
  generalize Obj.cells (madeCells #[.int .u64 0] s.size) 22 = ob at *
  obtain ⟨w2, e2⟩ : ∃ w2, w2 = w.alloc ob := ⟨_, rfl⟩
  rw [← e2] at hfu
  have E2 : Hid _ := e2
  have HF : Hid _ := hfu
  have HT : Hid (TabB w) := hT
  clear hfu e2 hT
  go_enter Tryd.func31, Tryd.ntmps31
  go_wp2_with (first | rw [← E2.out])
  clear E2 hmk
  go_loopw [10] (fun vk wr => ∃ k : Nat, k ≤ s.size ∧ vk = .int .i64 k ∧ Fu w wr w.heap.size s.size k (fun t => ((byt s t : Nat) : Int) + 1)) (fun vk _ => s.size - (intOf vk).toNat)
  case atStart => exact ⟨0, Nat.zero_le _, rfl, HF.out⟩
  case round =>
    obtain ⟨k, hk, rfl, hF⟩ := hrel
    have HFr : Hid _ := hF
    have HTr : Hid (TabB wr) := HT.out.grow hF.bel
    clear hF
    by_cases hkn : k < s.size
    · have hkI : (k : Int) < (s.size : Int) := by omega
      have hsx : (s.extract k (k + 1)).size < 9223372036854775808 := by rw [ByteArray.size_extract]; omega
      have cc : Hid (Calls Tryd.prog 24 #[.string (s.extract k (k + 1))] wr fun e w' => e = .returned (.agg #[.int .u64 ((wd (tx s k) 0 : Nat) : Int), .int .u64 ((wd (tx s k) 1 : Nat) : Int), .int .u64 ((wd (tx s k) 2 : Nat) : Int), .int .u64 ((wd (tx s k) 3 : Nat) : Int)]) ∧ Below wr.heap.size wr w') := of_any (s.extract k (k + 1)) hsx wr
      have HV : Hid (((vl (tx s k) : Nat) : Int) = ((byt s k : Nat) : Int) + 1) := by show _ = _; rw [vl_tx s k hkn]; rfl
      clear hsx
      go_wp2_with fail
      refine Calls.mono (Hid.out cc) ?_; rintro e w3 ⟨rfl, b3⟩
      have F3 : Hid _ := HFr.out.grow b3
      have cv : Hid _ := value_any (tx s k) w3 (HTr.out.grow b3)
      clear b3
      go_wp2_with fail
      refine Calls.mono (Hid.out cv) ?_; rintro e w4 ⟨rfl, b4⟩
      have F4 : Hid _ := F3.out.grow b4
      have hc := F4.out.cell hkn
      have hf := F4.out.wrt.zero k hkn
      have F5 : Hid (Fu w (w4.setCell ⟨w.heap.size, k, none⟩ (.int .u64 ((vl (tx s k) : Nat) : Int))) w.heap.size s.size (k + 1) (fun t => ((byt s t : Nat) : Int) + 1)) := F4.out.put (Nat.le_refl _) hkn HV.out
      clear b4
      go_wp2_with fail
      go_roundw
      case rel => exact ⟨k + 1, by omega, by go_num, F5.out⟩
      case measure => simp [intOf]; omega
    · obtain rfl : k = s.size := by omega
      have HN : Hid _ := HFr.out.new (Nat.le_refl _)
      go_wp2_with fail
      go_ret
      exact HN.out

theorem sq_le {a : Int} (h0 : 0 ≤ a) (h1 : a ≤ 256) : 0 ≤ a * a ∧ a * a ≤ 65536 := by
  refine ⟨Int.mul_nonneg h0 h0, ?_⟩
  have := Int.mul_le_mul h1 h1 h0 (by omega : (0 : Int) ≤ 256)
  omega

set_option maxHeartbeats 2000000 in
theorem squares_any (b0 o0 n cap : Nat) (A : Nat → Int) (hn : n ≤ 1000000) (h0 : ∀ t, 0 ≤ A t) (h1 : ∀ t, A t ≤ 256) (w : World) (hl : Fam w b0 o0 n A) :
    Calls Tryd.prog 33 #[.slice (some ⟨b0, o0, none⟩) n cap] w (New w n fun t => A t * A t) := by
  have hmk := makeU n hn
  have hfu := fu_made w w n (fun t => A t * A t) (Below.refl _ _)
  generalize Obj.cells (madeCells #[.int .u64 0] n) 22 = ob at *
  obtain ⟨w2, e2⟩ : ∃ w2, w2 = w.alloc ob := ⟨_, rfl⟩
  rw [← e2] at hfu
  have E2 : Hid _ := e2
  have HF : Hid _ := hfu
  have HL : Hid (Fam w b0 o0 n A) := hl
  clear hfu e2 hl
  go_enter Tryd.func33, Tryd.ntmps33
  go_wp2_with (first | rw [← E2.out])
  clear E2 hmk
  go_loopw [11] (fun vk wr => ∃ k : Nat, k ≤ n ∧ vk = .int .i64 k ∧ Fu w wr w.heap.size n k (fun t => A t * A t)) (fun vk _ => n - (intOf vk).toNat)
  case atStart => exact ⟨0, Nat.zero_le _, rfl, HF.out⟩
  case round =>
    obtain ⟨k, hk, rfl, hF⟩ := hrel
    have HFr : Hid _ := hF
    by_cases hkn : k < n
    · have hkI : (k : Int) < (n : Int) := by omega
      have hck := (HL.out.below hF.bel (HL.out.lt (by omega))) k hkn
      obtain ⟨g0, g1⟩ := sq_le (h0 k) (h1 k)
      have ha0 := h0 k
      have ha1 := h1 k
      have hc := HFr.out.cell hkn
      have hf := HFr.out.wrt.zero k hkn
      have F5 : Hid (Fu w (wr.setCell ⟨w.heap.size, k, none⟩ (.int .u64 (A k * A k))) w.heap.size n (k + 1) (fun t => A t * A t)) := HFr.out.put (Nat.le_refl _) hkn rfl
      clear hF h0 h1
      generalize A k = a at *
      go_wp2_with fail
      go_roundw
      case rel => exact ⟨k + 1, by omega, by go_num, F5.out⟩
      case measure => simp [intOf]; omega
    · obtain rfl : k = n := by omega
      have HN : Hid _ := HFr.out.new (Nat.le_refl _)
      clear hF
      go_wp2_with fail
      go_ret
      exact HN.out

theorem cube_le {a : Int} (h0 : 0 ≤ a) (h1 : a ≤ 256) : 0 ≤ a * a * a ∧ a * a * a ≤ 16777216 := by
  obtain ⟨h2, h3⟩ := sq_le h0 h1
  refine ⟨Int.mul_nonneg h2 h0, ?_⟩
  have := Int.mul_le_mul h3 h1 h0 (by omega : (0 : Int) ≤ 65536)
  omega

set_option maxHeartbeats 2000000 in
theorem weight_any (P : Nat → Nat → Bool) (n cap : Nat) (ao : Option Addr) (K : Int) (hn : n ≤ 1000000) (w : World) (hT : TabB w) (hl : Lf w ao n P) :
    Calls Tryd.prog 13 #[.agg #[.slice ao n cap, .int .i64 K]] w fun e w' => e = .returned (.int .u64 (wg P n)) ∧ Below w.heap.size w w' := by
  obtain ⟨w1, b1⟩ := lbox w (.slice ao n cap) (.int .i64 K)
  have E1 : Hid _ := b1.eq
  have B1 : Hid (Below w.heap.size w w1) := b1.bel
  have c0 := b1.c0
  have c1 := b1.c1
  have ce : Hid _ := elems_any P n cap ao K hn w1 (hT.grow b1.bel) (hl.grow b1.bel)
  have HW0 : Hid _ := wg_zero P
  have HV : Hid (∀ t, ((vl (P t) : Nat) : Int) ≤ 256) := fun t => by have := vl_le (P t); omega
  clear b1 hl hT
  go_enter Tryd.func13, Tryd.ntmps13
  go_wp2_with (first | rw [← E1.out])
  refine Calls.mono (Hid.out ce) ?_; rintro e w2 ⟨g, rfl, f2, _, _, b2⟩
  have B2 : Hid (Below w.heap.size w w2) := B1.out.trans (b2.mono B1.out.size)
  have F2 : Hid (Fam w2 g 0 n fun t => ((vl (P t) : Nat) : Int)) := f2
  clear E1 ce c0 c1 f2 b2
  go_wp2_with fail
  go_loopw [3, 9] (fun va vk wr => wr = w2 ∧ ∃ k : Nat, k ≤ n ∧ vk = .int .i64 k ∧ va = .int .u64 (wg P k)) (fun _ vk _ => n - (intOf vk).toNat)
  case atStart => exact ⟨rfl, 0, Nat.zero_le _, rfl, by rw [HW0.out]⟩
  case round =>
    obtain ⟨rfl, k, hk, rfl, rfl⟩ := hrel
    by_cases hkn : k < n
    · have hkI : (k : Int) < (n : Int) := by omega
      have hck := F2.out.zero k hkn
      have hv := HV.out k
      obtain ⟨g0, g1⟩ := sq_le (by omega) hv
      obtain ⟨q0, q1⟩ := cube_le (by omega) hv
      obtain ⟨r0, r1⟩ := wg_le P k
      have HS : Hid _ := wg_succ P k
      have hv0 : (0 : Int) ≤ ((vl (P k) : Nat) : Int) := by omega
      generalize ((vl (P k) : Nat) : Int) = a at *
      generalize wg P k = G at *
      go_wp2_with fail
      go_roundw
      case rel => exact ⟨by trivial, k + 1, by omega, by go_num, by rw [HS.out]⟩
      case measure => simp [intOf]; omega
    · obtain rfl : k = n := by omega
      go_wp2_with fail
      go_ret
      exact ⟨rfl, B2.out⟩

end Cls
end Go.Proofs.YtbojmkkpgglhhaaDoor
