/- Contracts of class.Of, class.Range. -/
import Derived.Test.YtodjjajofiaehaaDoorClsWith
import Derived.Laws.Strings
namespace Go.Proofs.YtodjjajofiaehaaDoor
open Go.RowKit
namespace Cls

/-- The bytes among the first n of a text. -/
def inS (s : ByteArray) (n b : Nat) : Bool := (s.data.toList.take n).any (fun x => x.toNat == b)
theorem inS_zero (s : ByteArray) : inS s 0 = fun _ => false := by funext b; simp [inS]
theorem inS_succ (s : ByteArray) (n : Nat) (h : n < s.size) : inS s (n + 1) = ins (inS s n) (s[n]'h).toNat := by
  funext b
  have hn : n < s.data.toList.length := by simpa using h
  unfold inS ins
  rw [List.take_succ_eq_append_getElem hn, List.any_append]
  congr 1
  have e : s.data.toList[n]'hn = s[n]'h := by simp; rfl
  rw [e]
  simp only [List.any_cons, List.any_nil, Bool.or_false]
  exact BEq.comm
/-- The bytes from a on that are below b. -/
def rg (a b x : Nat) : Bool := decide (a ≤ x) && decide (x < b)
theorem rg_none {a b : Nat} (h : b ≤ a) : rg a b = fun _ => false := by
  funext x
  unfold rg
  by_cases e : a ≤ x
  · rw [decide_eq_false (show ¬ x < b by omega)]; simp
  · rw [decide_eq_false e]; rfl
theorem rg_succ {a b : Nat} (h : a ≤ b) : rg a (b + 1) = ins (rg a b) b := by
  funext x
  unfold rg ins
  by_cases e : x = b
  · subst e; simp [h]
  · have : (x == b) = false := beq_eq_false_iff_ne.2 e
    rw [this, Bool.or_false]
    congr 1
    by_cases e2 : x < b
    · rw [decide_eq_true e2, decide_eq_true (by omega)]
    · rw [decide_eq_false e2, decide_eq_false (by omega)]
/-- A result's box (still empty) and a class that is being made. -/
structure Cur (B : Nat) (w wr : World) (gr gc : Nat) (f : Nat → Bool) : Prop where
  bel : Below B w wr
  rf : Fam wr gr 0 4 (wi (fun _ => false))
  rw : Wrt wr gr 0 4
  cf : Fam wr gc 0 4 (wi f)
  cw : Wrt wr gc 0 4
  ne : gr ≠ gc
  br : B ≤ gr
  bc : B ≤ gc
theorem Cur.grow {B : Nat} {w wr w' : World} {gr gc : Nat} {f : Nat → Bool} (h : Cur B w wr gr gc f) (hb : Below wr.heap.size wr w') (hB : B ≤ wr.heap.size) : Cur B w w' gr gc f :=
  ⟨h.bel.trans (hb.mono hB), h.rf.below hb (h.rf.lt (by omega)), h.rw.below hb (h.rf.lt (by omega)), h.cf.below hb (h.cf.lt (by omega)), h.cw.below hb (h.cf.lt (by omega)), h.ne, h.br, h.bc⟩
theorem Cur.set {B : Nat} {w wr : World} {gr gc : Nat} {f : Nat → Bool} (h : Cur B w wr gr gc f) (g : Nat → Bool) : Cur B w (set4 wr gc g) gr gc g :=
  ⟨set4_below h.bel h.bc g, (set4_wrote g).fam h.rf (fun _ _ e => h.ne e), set4_wrt h.rw g, set4_fam h.cf g, set4_wrt h.cw g, h.ne, h.br, h.bc⟩
theorem Cur.drew {B : Nat} {w wr : World} {gr gc : Nat} {f : Nat → Bool} (h : Cur B w wr gr gc f) : Cur B w wr.drew gr gc f := ⟨below_drewN h.bel 1, h.rf, h.rw, h.cf, h.cw, h.ne, h.br, h.bc⟩
theorem Cur.size {B : Nat} {w wr : World} {gr gc : Nat} {f : Nat → Bool} (h : Cur B w wr gr gc f) : B ≤ wr.heap.size := Nat.le_of_lt (Nat.lt_of_le_of_lt h.bc (h.cf.lt (by omega)))
theorem two_boxes (w : World) : ∃ v g, v = (w.alloc (.cells #[.int .u64 0, .int .u64 0, .int .u64 0, .int .u64 0] 26)).alloc (.cells #[.int .u64 0, .int .u64 0, .int .u64 0, .int .u64 0] 26) ∧ w.heap.size + 1 = g ∧ Cur w.heap.size w v w.heap.size g (fun _ => false) := by
  obtain ⟨w1, b1⟩ := box0 w
  obtain ⟨w2, b2⟩ := box0 w1
  have s1 : w.heap.size < w1.heap.size := by have := b1.size; omega
  refine ⟨w2, w1.heap.size, by rw [b2.eq, b1.eq], b1.size.symm, b1.bel.trans (b2.bel.mono b1.bel.size), b1.fam.below b2.bel s1, b1.wrt.below b2.bel s1, b2.fam, b2.wrt, by omega, Nat.le_refl _, by omega⟩

set_option maxHeartbeats 1000000 in
theorem of_any (s : ByteArray) (hs : s.size < 9223372036854775808) (w : World) :
    Calls Tryd.prog 10 #[.string s] w fun e w' => e = .returned (.agg #[.int .u64 ((wd (inS s s.size) 0 : Nat) : Int), .int .u64 ((wd (inS s s.size) 1 : Nat) : Int), .int .u64 ((wd (inS s s.size) 2 : Nat) : Int), .int .u64 ((wd (inS s s.size) 3 : Nat) : Int)]) ∧ Below w.heap.size w w' := by
  obtain ⟨v, g, e1, hg, hC⟩ := two_boxes w
  have E1 : Hid _ := e1
  have HG : Hid _ := hg
  have HC : Hid (Cur w.heap.size w v w.heap.size g (inS s 0)) := by show Cur _ _ _ _ _ _; rw [inS_zero]; exact hC
  clear e1 hg hC
  go_enter Tryd.func10, Tryd.ntmps10
  go_wp2_with fail
  rw [← E1.out, HG.out]
  clear E1
  go_loopw [7] (fun vk wr => ∃ n : Nat, n ≤ s.size ∧ vk = .int .i64 n ∧ Cur w.heap.size w wr w.heap.size g (inS s n)) (fun vk _ => s.size - (intOf vk).toNat)
  case atStart => exact ⟨0, Nat.zero_le _, rfl, HC.out⟩
  case round =>
    obtain ⟨n, hn, rfl, hF⟩ := hrel
    by_cases hlt : n < s.size
    · have HF : Hid _ := hF
      obtain ⟨a0, a1, a2, a3⟩ := c4 hF.cf
      have hi0 : (0 : Int) ≤ (n : Int) := by omega
      have hi1 : (n : Int) < (s.size : Int) := by omega
      have hb : (s[n]'hlt).toNat < 256 := UInt8.toNat_lt _
      have hsu : Hid _ := inS_succ s n hlt
      clear hF
      go_wp2_with fail
      go_region_with (go_at_call 28; refine (with_any (inS s n) _ hb _).mono ?_; rintro e w' ⟨rfl, b'⟩; have b2 : Below wr.heap.size wr w' := undrew b'; have H2 : Hid (Cur w.heap.size w w' w.heap.size g (inS s n)) := HF.out.grow b2 HF.out.size; obtain ⟨p0, p1, p2, p3⟩ := c4 H2.out.cf; obtain ⟨q0, q1, q2, q3⟩ := f4 H2.out.cw; clear b' b2)
      all_goals
        go_wp2_with fail
        go_roundw
        case rel => exact ⟨n + 1, by omega, by go_num, by rw [hsu.out]; exact H2.out.set _⟩
        case measure => simp [intOf]; omega
    · obtain rfl : n = s.size := by omega
      have HF : Hid _ := hF
      obtain ⟨a0, a1, a2, a3⟩ := c4 hF.cf
      obtain ⟨z0, z1, z2, z3⟩ := c4 hF.rf
      obtain ⟨f0, f1, f2, f3⟩ := f4 hF.rw
      clear hF
      go_wp2_with fail
      refine bodyPost_ret (results_set4 rfl _ wr w.heap.size (inS s s.size) rfl HF.out.rf) rfl ?_
      exact ⟨rfl, set4_below HF.out.bel (Nat.le_refl _) _⟩

set_option maxHeartbeats 1000000 in
theorem range_any (a b : Nat) (ha : a < 256) (hb : b < 256) (w : World) :
    Calls Tryd.prog 12 #[.int .u8 a, .int .u8 b] w fun e w' => e = .returned (.agg #[.int .u64 ((wd (rg a (b + 1)) 0 : Nat) : Int), .int .u64 ((wd (rg a (b + 1)) 1 : Nat) : Int), .int .u64 ((wd (rg a (b + 1)) 2 : Nat) : Int), .int .u64 ((wd (rg a (b + 1)) 3 : Nat) : Int)]) ∧ Below w.heap.size w w' := by
  obtain ⟨v, g, e1, hg, hC⟩ := two_boxes w
  have E1 : Hid _ := e1
  have HG : Hid _ := hg
  have HC : Hid (Cur w.heap.size w v w.heap.size g (rg a a)) := by show Cur _ _ _ _ _ _; rw [rg_none (Nat.le_refl a)]; exact hC
  clear e1 hg hC
  go_enter Tryd.func12, Tryd.ntmps12
  go_wp2_with fail
  rw [← E1.out, HG.out]
  clear E1
  go_loopw [6] (fun vk wr => ∃ n : Nat, a ≤ n ∧ n ≤ 256 ∧ (n ≤ b + 1 ∨ n = a) ∧ vk = .int .i64 n ∧ Cur w.heap.size w wr w.heap.size g (rg a n)) (fun vk _ => 256 - (intOf vk).toNat)
  case atStart => exact ⟨a, Nat.le_refl _, by omega, by omega, by first | rfl | simp, HC.out⟩
  case round =>
    obtain ⟨n, hna, hn, hor, rfl, hF⟩ := hrel
    by_cases hlt : n ≤ b
    · have HF : Hid _ := hF
      obtain ⟨a0, a1, a2, a3⟩ := c4 hF.cf
      have hi1 : (n : Int) ≤ (b : Int) := by omega
      have hi2 : (n : Int) < 256 := by omega
      have hsu : Hid _ := rg_succ hna
      have c1 : Hid _ := with_any (rg a n) n (by omega) wr
      clear hF
      go_wp2_with fail
      refine Calls.mono (Hid.out c1) ?_; rintro e w' ⟨rfl, b'⟩
      have H2 : Hid (Cur w.heap.size w w' w.heap.size g (rg a n)) := HF.out.grow b' HF.out.size
      obtain ⟨p0, p1, p2, p3⟩ := c4 H2.out.cf
      obtain ⟨q0, q1, q2, q3⟩ := f4 H2.out.cw
      clear b'
      go_wp2_with fail
      go_roundw
      case rel => exact ⟨n + 1, by omega, by omega, by omega, by go_num, by rw [hsu.out]; exact H2.out.set _⟩
      case measure => simp [intOf]; omega
    · have e : rg a n = rg a (b + 1) := by
        rcases hor with h | h
        · rw [show n = b + 1 by omega]
        · rw [rg_none (by omega), rg_none (by omega)]
      rw [e] at hF
      have HF : Hid _ := hF
      obtain ⟨a0, a1, a2, a3⟩ := c4 hF.cf
      obtain ⟨z0, z1, z2, z3⟩ := c4 hF.rf
      obtain ⟨f0, f1, f2, f3⟩ := f4 hF.rw
      have hi1 : ¬ (n : Int) ≤ (b : Int) := by omega
      clear hF e hor
      go_wp2_with fail
      refine bodyPost_ret (results_set4 rfl _ wr w.heap.size (rg a (b + 1)) rfl HF.out.rf) rfl ?_
      exact ⟨rfl, set4_below HF.out.bel (Nat.le_refl _) _⟩
end Cls
end Go.Proofs.YtodjjajofiaehaaDoor
