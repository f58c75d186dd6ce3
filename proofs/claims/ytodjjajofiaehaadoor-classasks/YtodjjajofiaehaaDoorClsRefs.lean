/- Contracts of the document's own answers of layer 6: Of, Range, Full, Not, Or. -/
import Derived.Test.YtodjjajofiaehaaDoorClsMake
import Derived.Test.YtodjjajofiaehaaDoorClsOps
namespace Go.Proofs.YtodjjajofiaehaaDoor
open Go.RowKit
namespace Cls

/-- A result's box (still empty) and a row of bools that is being filled. -/
structure Rs (B : Nat) (w wr : World) (gr gi : Nat) (f : Nat → Bool) : Prop where
  bel : Below B w wr
  rf : Fam wr gr 0 4 (wi (fun _ => false))
  rw : Wrt wr gr 0 4
  iv : Fv wr gi 256 (bo f)
  iw : Wrt wr gi 0 256
  ne : gr ≠ gi
  br : B ≤ gr
  bi : B ≤ gi
theorem Rs.set {B : Nat} {w wr : World} {gr gi : Nat} {f g : Nat → Bool} (h : Rs B w wr gr gi f) {j : Nat} (hj : j < 256) {x : Bool} (hx : g j = x) (hg : ∀ t, t < 256 → t ≠ j → g t = f t) : Rs B w (wr.setCell ⟨gi, j, none⟩ (.bool x)) gr gi g :=
  ⟨h.bel.trans (((Wrote.refl (fun b' _ => b' = gi) wr).setCell rfl _).below (fun b' o e => by have := h.bi; omega)), h.rf.setCell_ne h.ne _, h.rw.setCell _ _, (h.iv.set hj _).congr (fun t ht => by
    unfold updV bo
    by_cases e : t = j
    · subst e; rw [if_pos rfl, hx]
    · rw [if_neg e, hg t ht e]), h.iw.setCell _ _, h.ne, h.br, h.bi⟩
theorem Rs.congr {B : Nat} {w wr : World} {gr gi : Nat} {f g : Nat → Bool} (h : Rs B w wr gr gi f) (e : ∀ t, t < 256 → f t = g t) : Rs B w wr gr gi g :=
  ⟨h.bel, h.rf, h.rw, h.iv.congr (fun t ht => by unfold bo; rw [e t ht]), h.iw, h.ne, h.br, h.bi⟩
theorem Rs.size {B : Nat} {w wr : World} {gr gi : Nat} {f : Nat → Bool} (h : Rs B w wr gr gi f) : B ≤ wr.heap.size := Nat.le_of_lt (Nat.lt_of_le_of_lt h.bi (h.iv.lt (by omega)))
/-- What stands behind the last call: the result's box is still there. -/
theorem Rs.last {B : Nat} {w wr w' : World} {gr gi : Nat} {f : Nat → Bool} (h : Rs B w wr gr gi f) (hb : Below wr.heap.size wr w') : Below B w w' ∧ Fam w' gr 0 4 (wi (fun _ => false)) ∧ Wrt w' gr 0 4 :=
  ⟨h.bel.trans (hb.mono h.size), h.rf.below hb (h.rf.lt (by omega)), h.rw.below hb (h.rf.lt (by omega))⟩
theorem made (w : World) : ∃ ob v gi, (∀ w : World, (Instr.makeSlice 42 (.int .i64 256) (.int .i64 256)).run Tryd.prog w = .ok (.slice (some ⟨w.heap.size, 0, none⟩) 256 256) (w.alloc ob)) ∧ v = (w.alloc (.cells #[.int .u64 0, .int .u64 0, .int .u64 0, .int .u64 0] 26)).alloc ob ∧ w.heap.size + 1 = gi ∧ Rs w.heap.size w v w.heap.size gi (fun _ => false) := by
  obtain ⟨w1, b1⟩ := box0 w
  have s1 : w.heap.size < w1.heap.size := by have := b1.size; omega
  have bel : Below w1.heap.size w1 (w1.alloc (.cells (madeCells #[.bool false] 256) 4)) := (Below.refl _ _).alloc (Nat.le_refl _) _
  have hi : (Tryd.prog.info? 4).map (fun i => (i.zero, i.size, i.bytes)) = some (some (.bool false), 1, 1) := by kernel_rfl
  have hm := fun w => run_make_row' (P := Tryd.prog) 42 4 (.bool false) 1 Tryd.underlying42 hi rfl .i64 .i64 256 (by omega) (by omega) w
  have fv := fv_made w1 (.bool false) 256 4
  have wv := wv_made w1 (.bool false) 256 4
  generalize Obj.cells (madeCells #[.bool false] 256) 4 = ob at *
  refine ⟨ob, w1.alloc ob, w1.heap.size, hm, by rw [b1.eq], b1.size.symm, b1.bel.trans (bel.mono b1.bel.size), b1.fam.below bel s1, b1.wrt.below bel s1, fv, wv, by omega, Nat.le_refl _, by omega⟩

set_option maxHeartbeats 1000000 in
theorem refOf_any (s : ByteArray) (hs : s.size < 9223372036854775808) (w : World) :
    Calls Tryd.prog 11 #[.string s] w fun e w' => e = .returned (.agg #[.int .u64 ((wd (inS s s.size) 0 : Nat) : Int), .int .u64 ((wd (inS s s.size) 1 : Nat) : Int), .int .u64 ((wd (inS s s.size) 2 : Nat) : Int), .int .u64 ((wd (inS s s.size) 3 : Nat) : Int)]) ∧ Below w.heap.size w w' := by
  obtain ⟨ob, v, gi, hmk, e1, hgi, hR⟩ := made w
  have E1 : Hid _ := e1
  have HG : Hid _ := hgi
  have HR : Hid (Rs w.heap.size w v w.heap.size gi (inS s 0)) := by show Rs _ _ _ _ _ _; rw [inS_zero]; exact hR
  clear e1 hgi hR
  go_enter Tryd.func11, Tryd.ntmps11
  go_wp2_with fail
  rw [← E1.out, HG.out]
  clear E1 hmk
  go_loopw [4] (fun vk wr => ∃ n : Nat, n ≤ s.size ∧ vk = .int .i64 n ∧ Rs w.heap.size w wr w.heap.size gi (inS s n)) (fun vk _ => s.size - (intOf vk).toNat)
  case atStart => exact ⟨0, Nat.zero_le _, rfl, HR.out⟩
  case round =>
    obtain ⟨n, hn, rfl, hF⟩ := hrel
    have HF : Hid (Rs w.heap.size w wr w.heap.size gi (inS s n)) := hF
    by_cases hlt : n < s.size
    · have hi0 : (0 : Int) ≤ (n : Int) := by omega
      have hi1 : (n : Int) < (s.size : Int) := by omega
      have hb : (s[n]'hlt).toNat < 256 := UInt8.toNat_lt _
      have hsu : Hid _ := inS_succ s n hlt
      have hck := hF.iv _ hb
      have hfk := hF.iw.zero _ hb
      have hbI : (((s[n]'hlt).toNat : Nat) : Int) < 256 := by omega
      have HS : Hid (∀ t, t ≠ (s[n]'hlt).toNat → inS s (n + 1) t = inS s n t) := fun t ht => by
        rw [hsu.out]; unfold ins; rw [beq_eq_false_iff_ne.2 ht, Bool.or_false]
      have HS1 : Hid (inS s (n + 1) (s[n]'hlt).toNat = true) := by show _ = _; rw [hsu.out]; unfold ins; simp
      clear hF
      go_wp2_with fail
      go_roundw
      case rel => exact ⟨n + 1, by omega, by go_num, HF.out.set hb HS1.out (fun t _ e => HS.out t e)⟩
      case measure => simp [intOf]; omega
    · obtain rfl : n = s.size := by omega
      have c1 : Hid _ := refMake_any (inS s s.size) gi 256 wr hF.iv
      clear hF
      go_wp2_with fail
      refine Calls.mono (Hid.out c1) ?_; rintro e w' ⟨rfl, b'⟩
      have HL : Hid (Below w.heap.size w w' ∧ Fam w' w.heap.size 0 4 (wi (fun _ => false)) ∧ Wrt w' w.heap.size 0 4) := HF.out.last b'
      obtain ⟨z0, z1, z2, z3⟩ := c4 HL.out.2.1
      obtain ⟨f0, f1, f2, f3⟩ := f4 HL.out.2.2
      clear b'
      go_wp2_with fail
      refine bodyPost_ret (results_set4 rfl _ w' w.heap.size (inS s s.size) rfl HL.out.2.1) rfl ?_
      exact ⟨rfl, set4_below HL.out.1 (Nat.le_refl _) _⟩

set_option maxHeartbeats 1000000 in
theorem refRange_any (a b : Nat) (ha : a < 256) (hb : b < 256) (w : World) :
    Calls Tryd.prog 13 #[.int .u8 a, .int .u8 b] w fun e w' => e = .returned (.agg #[.int .u64 ((wd (rg a (b + 1)) 0 : Nat) : Int), .int .u64 ((wd (rg a (b + 1)) 1 : Nat) : Int), .int .u64 ((wd (rg a (b + 1)) 2 : Nat) : Int), .int .u64 ((wd (rg a (b + 1)) 3 : Nat) : Int)]) ∧ Below w.heap.size w w' := by
  obtain ⟨ob, v, gi, hmk, e1, hgi, hR⟩ := made w
  have E1 : Hid _ := e1
  have HG : Hid _ := hgi
  have HR : Hid (Rs w.heap.size w v w.heap.size gi (rg a a)) := by show Rs _ _ _ _ _ _; rw [rg_none (Nat.le_refl a)]; exact hR
  clear e1 hgi hR
  go_enter Tryd.func13, Tryd.ntmps13
  go_wp2_with fail
  rw [← E1.out, HG.out]
  clear E1 hmk
  go_loopw [6] (fun vk wr => ∃ n : Nat, a ≤ n ∧ n ≤ 256 ∧ (n ≤ b + 1 ∨ n = a) ∧ vk = .int .i64 n ∧ Rs w.heap.size w wr w.heap.size gi (rg a n)) (fun vk _ => 256 - (intOf vk).toNat)
  case atStart => exact ⟨a, Nat.le_refl _, by omega, by omega, by first | rfl | simp, HR.out⟩
  case round =>
    obtain ⟨n, hna, hn, hor, rfl, hF⟩ := hrel
    have HF : Hid (Rs w.heap.size w wr w.heap.size gi (rg a n)) := hF
    by_cases hlt : n ≤ b
    · have hi1 : (n : Int) ≤ (b : Int) := by omega
      have hi2 : (n : Int) < 256 := by omega
      have hn6 : n < 256 := by omega
      have hsu : Hid _ := rg_succ hna
      have hck := hF.iv n hn6
      have hfk := hF.iw.zero n hn6
      have HS : Hid (∀ t, t ≠ n → rg a (n + 1) t = rg a n t) := fun t ht => by
        rw [hsu.out]; unfold ins; rw [beq_eq_false_iff_ne.2 ht, Bool.or_false]
      have HS1 : Hid (rg a (n + 1) n = true) := by show _ = _; rw [hsu.out]; unfold ins; simp
      clear hF hor
      go_wp2_with fail
      go_roundw
      case rel => exact ⟨n + 1, by omega, by omega, by omega, by go_num, HF.out.set hn6 HS1.out (fun t _ e => HS.out t e)⟩
      case measure => simp [intOf]; omega
    · have e : rg a n = rg a (b + 1) := by
        rcases hor with h | h
        · rw [show n = b + 1 by omega]
        · rw [rg_none (by omega), rg_none (by omega)]
      rw [e] at hF
      have c1 : Hid _ := refMake_any (rg a (b + 1)) gi 256 wr hF.iv
      have hi1 : ¬ (n : Int) ≤ (b : Int) := by omega
      clear hF e hor
      go_wp2_with fail
      refine Calls.mono (Hid.out c1) ?_; rintro e w' ⟨rfl, b'⟩
      have HL : Hid (Below w.heap.size w w' ∧ Fam w' w.heap.size 0 4 (wi (fun _ => false)) ∧ Wrt w' w.heap.size 0 4) := HF.out.last b'
      obtain ⟨z0, z1, z2, z3⟩ := c4 HL.out.2.1
      obtain ⟨f0, f1, f2, f3⟩ := f4 HL.out.2.2
      clear b'
      go_wp2_with fail
      refine bodyPost_ret (results_set4 rfl _ w' w.heap.size (rg a (b + 1)) rfl HL.out.2.1) rfl ?_
      exact ⟨rfl, set4_below HL.out.1 (Nat.le_refl _) _⟩

set_option maxHeartbeats 1000000 in
theorem refFull_any (w : World) :
    Calls Tryd.prog 15 #[] w fun e w' => e = .returned (.agg #[.int .u64 ((wd (rg 0 256) 0 : Nat) : Int), .int .u64 ((wd (rg 0 256) 1 : Nat) : Int), .int .u64 ((wd (rg 0 256) 2 : Nat) : Int), .int .u64 ((wd (rg 0 256) 3 : Nat) : Int)]) ∧ Below w.heap.size w w' := by
  obtain ⟨w1, b1⟩ := box0 w
  have E1 : Hid _ := b1.eq
  have s1 : w.heap.size < w1.heap.size := by have := b1.size; omega
  have B1 : Hid (Below w.heap.size w w1) := b1.bel
  have RF : Hid (Fam w1 w.heap.size 0 4 (wi (fun _ => false))) := b1.fam
  have RW : Hid (Wrt w1 w.heap.size 0 4) := b1.wrt
  have c1 : Hid _ := refRange_any 0 255 (by omega) (by omega) w1
  clear b1
  go_enter Tryd.func15, Tryd.ntmps15
  go_wp2_with fail
  rw [← E1.out]
  clear E1
  refine Calls.mono (Hid.out c1) ?_; rintro e w2 ⟨rfl, b2⟩
  have FZ : Hid (Fam w2 w.heap.size 0 4 (wi (fun _ => false))) := RF.out.below b2 s1
  obtain ⟨z0, z1, z2, z3⟩ := c4 FZ.out
  obtain ⟨f0, f1, f2, f3⟩ := f4 (Wrt.below RW.out b2 s1)
  have B2 : Hid (Below w.heap.size w w2) := B1.out.trans (b2.mono B1.out.size)
  clear b2
  go_wp2_with fail
  refine bodyPost_ret (results_set4 rfl _ w2 w.heap.size (rg 0 256) rfl FZ.out) rfl ?_
  exact ⟨rfl, set4_below B2.out (Nat.le_refl _) _⟩

/-- The first n turned, or put together with others. -/
def mixf (n : Nat) (h f : Nat → Bool) : Nat → Bool := fun t => if t < n then h t else f t
theorem mixf_zero (h f : Nat → Bool) : mixf 0 h f = f := by funext t; simp [mixf]
theorem mixf_at (n : Nat) (h f : Nat → Bool) : mixf n h f n = f n := by simp [mixf]
theorem mixf_new (n : Nat) (h f : Nat → Bool) : mixf (n + 1) h f n = h n := by simp [mixf]
theorem mixf_off {n t : Nat} (h f : Nat → Bool) (e : t ≠ n) : mixf (n + 1) h f t = mixf n h f t := by
  unfold mixf
  by_cases h1 : t < n
  · rw [if_pos h1, if_pos (by omega)]
  · rw [if_neg h1, if_neg (by omega)]
theorem mixf_end (h f : Nat → Bool) : ∀ t, t < 256 → mixf 256 h f t = h t := fun t ht => by unfold mixf; rw [if_pos ht]

set_option maxHeartbeats 1000000 in
theorem refNot_any (f : Nat → Bool) (w : World) :
    Calls Tryd.prog 17 #[.agg #[.int .u64 ((wd (f) 0 : Nat) : Int), .int .u64 ((wd (f) 1 : Nat) : Int), .int .u64 ((wd (f) 2 : Nat) : Int), .int .u64 ((wd (f) 3 : Nat) : Int)]] w fun e w' => e = .returned (.agg #[.int .u64 ((wd (fun b => !f b) 0 : Nat) : Int), .int .u64 ((wd (fun b => !f b) 1 : Nat) : Int), .int .u64 ((wd (fun b => !f b) 2 : Nat) : Int), .int .u64 ((wd (fun b => !f b) 3 : Nat) : Int)]) ∧ Below w.heap.size w w' := by
  obtain ⟨w1, b1⟩ := box w f
  obtain ⟨w2, b2⟩ := box0 w1
  have E1 : Hid _ := b1.eq
  have E2 : Hid _ := b2.eq
  have s1 : w.heap.size < w1.heap.size := by have := b1.size; omega
  have s2 : w1.heap.size < w2.heap.size := by have := b2.size; omega
  have B2 : Hid (Below w.heap.size w w2) := b1.bel.trans (b2.bel.mono b1.bel.size)
  obtain ⟨a0, a1, a2, a3⟩ := c4 (b1.fam.below b2.bel s1)
  have RF : Hid (Fam w2 w1.heap.size 0 4 (wi (fun _ => false))) := b2.fam
  have RW : Hid (Wrt w2 w1.heap.size 0 4) := b2.wrt
  have HS : Hid (w.heap.size + 1 = w1.heap.size) := b1.size.symm
  have c1 : Hid _ := refBytes_any f w2
  clear b1 b2
  generalize w1.heap.size = gr at *
  go_enter Tryd.func17, Tryd.ntmps17
  go_wp2_with fail
  rw [← E1.out, ← E2.out, HS.out]
  clear E1 E2 HS
  refine Calls.mono (Hid.out c1) ?_; rintro e w3 ⟨g, cap, rfl, hg, hgl, hV, hW, b3⟩
  have R3 : Hid (Rs w.heap.size w w3 gr g (mixf 0 (fun b => !f b) f)) := by
    show Rs _ _ _ _ _ _
    rw [mixf_zero]
    exact ⟨B2.out.trans (b3.mono B2.out.size), RF.out.below b3 s2, Wrt.below RW.out b3 s2, hV, hW, by omega, by omega, by omega⟩
  clear hV hW b3 a0 a1 a2 a3 c1
  go_wp2_with fail
  go_loopw [4] (fun vk wr => ∃ n : Nat, n ≤ 256 ∧ vk = .int .i64 n ∧ Rs w.heap.size w wr gr g (mixf n (fun b => !f b) f)) (fun vk _ => 256 - (intOf vk).toNat)
  case atStart => exact ⟨0, Nat.zero_le _, rfl, R3.out⟩
  case round =>
    obtain ⟨n, hn, rfl, hF⟩ := hrel
    have HF : Hid (Rs w.heap.size w wr gr g (mixf n (fun b => !f b) f)) := hF
    by_cases hlt : n < 256
    · have hi2 : (n : Int) < 256 := by omega
      have hck : wr.cell? ⟨g, n, none⟩ = some (.bool (f n)) := by have := hF.iv n hlt; unfold bo at this; rwa [mixf_at] at this
      have hfk := hF.iw.zero n hlt
      clear hF
      go_wp2_with fail
      go_roundw
      case rel => exact ⟨n + 1, by omega, by go_num, HF.out.set hlt (mixf_new _ _ _) (fun t _ e => mixf_off _ _ e)⟩
      case measure => simp [intOf]; omega
    · obtain rfl : n = 256 := by omega
      have c2 : Hid _ := refMake_any (fun b => !f b) g cap wr (hF.congr (mixf_end _ _)).iv
      clear hF
      go_wp2_with fail
      refine Calls.mono (Hid.out c2) ?_; rintro e w' ⟨rfl, b'⟩
      have HL : Hid (Below w.heap.size w w' ∧ Fam w' gr 0 4 (wi (fun _ => false)) ∧ Wrt w' gr 0 4) := HF.out.last b'
      obtain ⟨z0, z1, z2, z3⟩ := c4 HL.out.2.1
      obtain ⟨f0, f1, f2, f3⟩ := f4 HL.out.2.2
      clear b'
      go_wp2_with fail
      refine bodyPost_ret (results_set4 rfl _ w' gr (fun b => !f b) rfl HL.out.2.1) rfl ?_
      exact ⟨rfl, set4_below HL.out.1 (by omega) _⟩

set_option maxHeartbeats 1000000 in
theorem refOr_any (f h : Nat → Bool) (w : World) :
    Calls Tryd.prog 19 #[.agg #[.int .u64 ((wd (f) 0 : Nat) : Int), .int .u64 ((wd (f) 1 : Nat) : Int), .int .u64 ((wd (f) 2 : Nat) : Int), .int .u64 ((wd (f) 3 : Nat) : Int)], .agg #[.int .u64 ((wd (h) 0 : Nat) : Int), .int .u64 ((wd (h) 1 : Nat) : Int), .int .u64 ((wd (h) 2 : Nat) : Int), .int .u64 ((wd (h) 3 : Nat) : Int)]] w fun e w' => e = .returned (.agg #[.int .u64 ((wd (fun b => f b || h b) 0 : Nat) : Int), .int .u64 ((wd (fun b => f b || h b) 1 : Nat) : Int), .int .u64 ((wd (fun b => f b || h b) 2 : Nat) : Int), .int .u64 ((wd (fun b => f b || h b) 3 : Nat) : Int)]) ∧ Below w.heap.size w w' := by
  obtain ⟨w1, b1⟩ := box w f
  obtain ⟨wb, bb⟩ := box w1 h
  obtain ⟨w2, b2⟩ := box0 wb
  have E1 : Hid _ := b1.eq
  have Eb : Hid _ := bb.eq
  have E2 : Hid _ := b2.eq
  have s1 : w.heap.size < w1.heap.size := by have := b1.size; omega
  have sb : w1.heap.size < wb.heap.size := by have := bb.size; omega
  have s2 : wb.heap.size < w2.heap.size := by have := b2.size; omega
  have C2 : Below w1.heap.size w1 w2 := bb.bel.trans (b2.bel.mono bb.bel.size)
  have B2 : Hid (Below w.heap.size w w2) := b1.bel.trans (C2.mono b1.bel.size)
  obtain ⟨a0, a1, a2, a3⟩ := c4 (b1.fam.below C2 s1)
  have FH : Hid (Fam w2 w1.heap.size 0 4 (wi h)) := bb.fam.below b2.bel sb
  have RF : Hid (Fam w2 wb.heap.size 0 4 (wi (fun _ => false))) := b2.fam
  have RW : Hid (Wrt w2 wb.heap.size 0 4) := b2.wrt
  have HS : Hid (w.heap.size + 1 = w1.heap.size) := b1.size.symm
  have HS2 : Hid (w1.heap.size + 1 = wb.heap.size) := bb.size.symm
  have c1 : Hid _ := refBytes_any f w2
  clear b1 bb b2 C2
  generalize w1.heap.size = gh at *
  generalize wb.heap.size = gr at *
  go_enter Tryd.func19, Tryd.ntmps19
  go_wp2_with fail
  rw [← E1.out, ← Eb.out, ← E2.out, HS.out, HS2.out]
  clear E1 Eb E2 HS HS2
  refine Calls.mono (Hid.out c1) ?_; rintro e w3 ⟨g, cap, rfl, hg, hgl, hV, hW, b3⟩
  have R3 : Hid (Rs w.heap.size w w3 gr g f) := ⟨B2.out.trans (b3.mono B2.out.size), RF.out.below b3 s2, Wrt.below RW.out b3 s2, hV, hW, by omega, by omega, by omega⟩
  obtain ⟨k0, k1, k2, k3⟩ := c4 (FH.out.below b3 (by omega))
  have c3 : Hid _ := refBytes_any h w3
  clear hV hW b3 a0 a1 a2 a3 c1
  go_wp2_with fail
  refine Calls.mono (Hid.out c3) ?_; rintro e w4 ⟨go, capo, rfl, hgo, hgol, hVo, _, b4⟩
  have R4 : Hid (Rs w.heap.size w w4 gr g (mixf 0 (fun b => f b || h b) f)) := by
    show Rs _ _ _ _ _ _
    rw [mixf_zero]
    have R := R3.out
    have l1 : gr < w3.heap.size := R.rf.lt (by omega)
    exact ⟨R.bel.trans (b4.mono R.size), R.rf.below b4 l1, R.rw.below b4 l1, R.iv.below b4 hgl, R.iw.below b4 hgl, R.ne, R.br, R.bi⟩
  have HO : Hid (Fv w4 go 256 (bo h)) := hVo
  have hne : go ≠ g := by omega
  clear hVo b4 k0 k1 k2 k3 c3 R3
  go_wp2_with fail
  go_loopw [7] (fun vk wr => ∃ n : Nat, n ≤ 256 ∧ vk = .int .i64 n ∧ Rs w.heap.size w wr gr g (mixf n (fun b => f b || h b) f) ∧ Fv wr go 256 (bo h)) (fun vk _ => 256 - (intOf vk).toNat)
  case atStart => exact ⟨0, Nat.zero_le _, rfl, R4.out, HO.out⟩
  case round =>
    obtain ⟨n, hn, rfl, hF, hO⟩ := hrel
    have HF : Hid (Rs w.heap.size w wr gr g (mixf n (fun b => f b || h b) f)) := hF
    by_cases hlt : n < 256
    · have hi2 : (n : Int) < 256 := by omega
      have hck : wr.cell? ⟨g, n, none⟩ = some (.bool (f n)) := by have := hF.iv n hlt; unfold bo at this; rwa [mixf_at] at this
      have hok : wr.cell? ⟨go, n, none⟩ = some (.bool (h n)) := hO n hlt
      have hfk := hF.iw.zero n hlt
      have HO' : Hid (∀ x, Fv (wr.setCell ⟨g, n, none⟩ x) go 256 (bo h)) := fun x t ht => by rw [cell_setCell_ne _ _ _ _ _ _ (Or.inl hne)]; exact hO t ht
      clear hF hO
      have HX : Hid (∀ y, y = (f n || h n) → Rs w.heap.size w (wr.setCell ⟨g, n, none⟩ (.bool y)) gr g (mixf (n + 1) (fun b => f b || h b) f)) := fun y hy => HF.out.set hlt ((mixf_new _ _ _).trans hy.symm) (fun t _ e => mixf_off _ _ e)
      generalize h n = hv at *
      generalize f n = fv at *
      cases fv with
      | true =>
        go_wp2_with fail
        all_goals
          go_roundw
          case rel => exact ⟨n + 1, by omega, by go_num, (HX.out _ (by simp)), HO'.out _⟩
          case measure => simp [intOf]; omega
      | false =>
        go_wp2_with fail
        all_goals
          go_roundw
          case rel => exact ⟨n + 1, by omega, by go_num, (HX.out _ (by simp)), HO'.out _⟩
          case measure => simp [intOf]; omega
    · obtain rfl : n = 256 := by omega
      have c2 : Hid _ := refMake_any (fun b => f b || h b) g cap wr (hF.congr (mixf_end _ _)).iv
      clear hF hO
      go_wp2_with fail
      refine Calls.mono (Hid.out c2) ?_; rintro e w' ⟨rfl, b'⟩
      have HL : Hid (Below w.heap.size w w' ∧ Fam w' gr 0 4 (wi (fun _ => false)) ∧ Wrt w' gr 0 4) := HF.out.last b'
      obtain ⟨z0, z1, z2, z3⟩ := c4 HL.out.2.1
      obtain ⟨f0, f1, f2, f3⟩ := f4 HL.out.2.2
      clear b'
      go_wp2_with fail
      refine bodyPost_ret (results_set4 rfl _ w' gr (fun b => f b || h b) rfl HL.out.2.1) rfl ?_
      exact ⟨rfl, set4_below HL.out.1 (by omega) _⟩
end Cls
end Go.Proofs.YtodjjajofiaehaaDoor
