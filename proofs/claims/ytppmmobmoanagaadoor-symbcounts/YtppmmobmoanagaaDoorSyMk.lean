/- Contracts of symb.Marks, symb.Places. -/
import Derived.Test.YtppmmobmoanagaaDoorSyDef
import Derived.Test.YtppmmobmoanagaaDoorFuRow
import Derived.Test.YtppmmobmoanagaaDoorNvA
import Derived.Test.YtppmmobmoanagaaDoorLfA
namespace Go.Proofs.YtppmmobmoanagaaDoor
open Go.RowKit Res
namespace Cls

set_option maxHeartbeats 1000000 in
theorem marks1_any (f : Nat → Bool) (s : ByteArray) (bc bs i : Nat) (hi : i < s.size) (w : World) (hc : Fam w bc 0 4 (wi f)) (ht : w.cell? ⟨bs, 0, none⟩ = some (.string s)) :
    Calls Tryd.prog 30 #[.int .i64 (i : Int), .pointer (some ⟨bc, 0, none⟩), .pointer (some ⟨bs, 0, none⟩)] w fun e w' => e = .returned (.bool (f (byt s i))) ∧ Below w.heap.size w w' := by
  obtain ⟨a0, a1, a2, a3⟩ := c4 hc
  have hbt := byt_lt s i
  have hi1 : (i : Int) < (s.size : Int) := by omega
  have hidx := idx_str s i hi
  have HT : Hid (w.cell? ⟨bs, 0, none⟩ = some (.string s)) := ht
  have HC : Hid _ := hc
  have hbc : bc < w.heap.size := hc.lt (by omega)
  have hcc : Hid _ := fun v => has_any f (byt s i) hbt v
  clear hc
  go_enter Tryd.func30, Tryd.ntmps30
  go_wp2_with fail
  go_region_held3 (fun w' => w'.cell? ⟨bc, 0, none⟩ = some (.int .u64 ((wd f 0 : Nat) : Int)) ∧ w'.cell? ⟨bc, 1, none⟩ = some (.int .u64 ((wd f 1 : Nat) : Int)) ∧ w'.cell? ⟨bc, 2, none⟩ = some (.int .u64 ((wd f 2 : Nat) : Int)) ∧ w'.cell? ⟨bc, 3, none⟩ = some (.int .u64 ((wd f 3 : Nat) : Int)) ∧ w'.cell? ⟨bs, 0, none⟩ = some (.string s)) (go_keep)
    (first | (go_at_call 31; refine Calls.mono (hcc.out _) ?_; rintro e w3 ⟨rfl, b3⟩; have b3' : Below w.heap.size w w3 := undrew b3; have HB3 : Hid (Below w.heap.size w w3) := b3'; obtain ⟨m0, m1, m2, m3⟩ := c4 (Fam.below (show Fam w bc 0 4 (wi f) from HC.out) b3' hbc); have m4 : w3.cell? ⟨bs, 0, none⟩ = some (.string s) := (b3'.cell (p := ⟨bs, 0, none⟩) (World.block_lt_of_cell? w _ HT.out)).trans HT.out; clear b3 b3'))
  go_wp2_with fail
  go_ret
  exact ⟨rfl, HB3.out⟩

set_option maxHeartbeats 2000000 in
theorem markedM_any (f : Nat → Bool) (s : ByteArray) (bc bs : Nat) (hs : s.size ≤ 1000000) (w : World) (hc : Fam w bc 0 4 (wi f)) (ht : w.cell? ⟨bs, 0, none⟩ = some (.string s)) :
    Calls Tryd.prog 29 #[.int .i64 ((s.size : Nat) : Int), .func (.func 30) #[] #[.pointer (some ⟨bc, 0, none⟩), .pointer (some ⟨bs, 0, none⟩)]] w (New w s.size (km s f)) := by
  have hmk := makeU (s.size) hs
  have hfu := fu_made w w (s.size) (km s f) (Below.refl _ _)
  generalize Obj.cells (madeCells #[.int .u64 0] (s.size)) 25 = ob at *
  obtain ⟨w2, e2⟩ : ∃ w2, w2 = w.alloc ob := ⟨_, rfl⟩
  rw [← e2] at hfu
  have E2 : Hid _ := e2
  have HF : Hid _ := hfu
  have HCc : Hid (Fam w bc 0 4 (wi f)) := hc
  have HCt : Hid (w.cell? ⟨bs, 0, none⟩ = some (.string s)) := ht
  clear hc ht
  clear hfu e2
  go_enter Tryd.func29, Tryd.ntmps29
  go_wp2_with (first | rw [← E2.out])
  clear E2 hmk
  go_loopw [11] (fun vk wr => ∃ k : Nat, k ≤ s.size ∧ vk = .int .i64 k ∧ Fu w wr w.heap.size (s.size) k (km s f)) (fun vk _ => s.size - (intOf vk).toNat)
  case atStart => exact ⟨0, Nat.zero_le _, rfl, HF.out⟩
  case round =>
    obtain ⟨k, hk, rfl, hF⟩ := hrel
    have HFr : Hid _ := hF
    by_cases hkn : k < s.size
    · have hkI : (k : Int) < ((s.size : Nat) : Int) := by omega
      have cc : Hid _ := marks1_any f s bc bs k hkn wr (HCc.out.below hF.bel (HCc.out.lt (by omega))) ((hF.bel.cell (p := ⟨bs, 0, none⟩) (World.block_lt_of_cell? w _ HCt.out)).trans HCt.out)
      clear hF
      cases hb : f (byt s k) with
      | true =>
        rw [hb] at cc
        have HK : Hid ((1 : Int) = (km s f) k) := by show _ = _; unfold km; rw [hb]; rfl
        clear hb
        go_wp2_with fail
        refine Calls.mono (Hid.out cc) ?_; rintro e w4 ⟨rfl, b4⟩
        have F4 : Hid _ := HFr.out.grow b4
        have hc := F4.out.cell hkn
        have hf := F4.out.wrt.zero k hkn
        have F5 : Hid (Fu w (w4.setCell ⟨w.heap.size, k, none⟩ (.int .u64 1)) w.heap.size (s.size) (k + 1) (km s f)) := F4.out.put (Nat.le_refl _) hkn HK.out
        clear b4
        go_wp2_with fail
        go_roundw
        case rel => exact ⟨k + 1, by omega, by go_num, F5.out⟩
        case measure => simp [intOf]; omega
      | false =>
        rw [hb] at cc
        have HK : Hid ((km s f) k = 0) := by show _ = _; unfold km; rw [hb]; rfl
        clear hb
        go_wp2_with fail
        refine Calls.mono (Hid.out cc) ?_; rintro e w4 ⟨rfl, b4⟩
        have F5 : Hid (Fu w w4 w.heap.size (s.size) (k + 1) (km s f)) := (HFr.out.grow b4).skip HK.out
        clear b4
        go_wp2_with fail
        go_roundw
        case rel => exact ⟨k + 1, by omega, by go_num, F5.out⟩
        case measure => simp [intOf]; omega
    · obtain rfl : k = s.size := by omega
      have HN : Hid _ := HFr.out.new (Nat.le_refl _)
      go_wp2_with fail
      go_ret
      exact HN.out

set_option maxHeartbeats 1000000 in
theorem places1_any (P : Nat → Nat → Bool) (f : Nat → Bool) (bl bc i n cap : Nat) (ao : Option Addr) (hi : i < n) (w : World) (hc : Fam w bc 0 4 (wi f)) (ht : w.cell? ⟨bl, 0, none⟩ = some (.slice ao n cap)) (hl : Lf w ao n P) :
    Calls Tryd.prog 33 #[.int .i64 (i : Int), .pointer (some ⟨bl, 0, none⟩), .pointer (some ⟨bc, 0, none⟩)] w fun e w' => e = .returned (.bool (sm (P i) f)) ∧ Below w.heap.size w w' := by
  obtain ⟨a0, a1, a2, a3⟩ := c4 hc
  have hiI : (i : Int) < (n : Int) := by omega
  have hn := hl.small
  obtain ⟨b, o, rfl, hb, hC⟩ := hl.lies (by omega)
  obtain ⟨c0, c1, c2, c3⟩ := hC.four hi
  clear hc hl hC
  go_enter Tryd.func33, Tryd.ntmps33
  go_wp2_with fail
  go_quiet (fail)
  have HB : Hid (Below w.heap.size w (w.drewN nq)) := below_drewN (Below.refl _ _) nq
  go_wp2_with fail
  go_ret
  exact ⟨rfl, HB.out⟩

set_option maxHeartbeats 2000000 in
theorem markedP_any (P : Nat → Nat → Bool) (f : Nat → Bool) (bl bc n cap : Nat) (ao : Option Addr) (hn : n ≤ 1000000) (w : World) (hc : Fam w bc 0 4 (wi f)) (ht : w.cell? ⟨bl, 0, none⟩ = some (.slice ao n cap)) (hl : Lf w ao n P) :
    Calls Tryd.prog 29 #[.int .i64 ((n : Nat) : Int), .func (.func 33) #[] #[.pointer (some ⟨bl, 0, none⟩), .pointer (some ⟨bc, 0, none⟩)]] w (New w n (kp P f)) := by
  have hmk := makeU (n) hn
  have hfu := fu_made w w (n) (kp P f) (Below.refl _ _)
  generalize Obj.cells (madeCells #[.int .u64 0] (n)) 25 = ob at *
  obtain ⟨w2, e2⟩ : ∃ w2, w2 = w.alloc ob := ⟨_, rfl⟩
  rw [← e2] at hfu
  have E2 : Hid _ := e2
  have HF : Hid _ := hfu
  have HCc : Hid (Fam w bc 0 4 (wi f)) := hc
  have HCt : Hid (w.cell? ⟨bl, 0, none⟩ = some (.slice ao n cap)) := ht
  have HLf : Hid (Lf w ao n P) := hl
  clear hc ht hl
  clear hfu e2
  go_enter Tryd.func29, Tryd.ntmps29
  go_wp2_with (first | rw [← E2.out])
  clear E2 hmk
  go_loopw [11] (fun vk wr => ∃ k : Nat, k ≤ n ∧ vk = .int .i64 k ∧ Fu w wr w.heap.size (n) k (kp P f)) (fun vk _ => n - (intOf vk).toNat)
  case atStart => exact ⟨0, Nat.zero_le _, rfl, HF.out⟩
  case round =>
    obtain ⟨k, hk, rfl, hF⟩ := hrel
    have HFr : Hid _ := hF
    by_cases hkn : k < n
    · have hkI : (k : Int) < ((n : Nat) : Int) := by omega
      have cc : Hid _ := places1_any P f bl bc k n cap ao hkn wr (HCc.out.below hF.bel (HCc.out.lt (by omega))) ((hF.bel.cell (p := ⟨bl, 0, none⟩) (World.block_lt_of_cell? w _ HCt.out)).trans HCt.out) (HLf.out.grow hF.bel)
      clear hF
      cases hb : sm (P k) f with
      | true =>
        rw [hb] at cc
        have HK : Hid ((1 : Int) = (kp P f) k) := by show _ = _; unfold kp; rw [hb]; rfl
        clear hb
        go_wp2_with fail
        refine Calls.mono (Hid.out cc) ?_; rintro e w4 ⟨rfl, b4⟩
        have F4 : Hid _ := HFr.out.grow b4
        have hc := F4.out.cell hkn
        have hf := F4.out.wrt.zero k hkn
        have F5 : Hid (Fu w (w4.setCell ⟨w.heap.size, k, none⟩ (.int .u64 1)) w.heap.size (n) (k + 1) (kp P f)) := F4.out.put (Nat.le_refl _) hkn HK.out
        clear b4
        go_wp2_with fail
        go_roundw
        case rel => exact ⟨k + 1, by omega, by go_num, F5.out⟩
        case measure => simp [intOf]; omega
      | false =>
        rw [hb] at cc
        have HK : Hid ((kp P f) k = 0) := by show _ = _; unfold kp; rw [hb]; rfl
        clear hb
        go_wp2_with fail
        refine Calls.mono (Hid.out cc) ?_; rintro e w4 ⟨rfl, b4⟩
        have F5 : Hid (Fu w w4 w.heap.size (n) (k + 1) (kp P f)) := (HFr.out.grow b4).skip HK.out
        clear b4
        go_wp2_with fail
        go_roundw
        case rel => exact ⟨k + 1, by omega, by go_num, F5.out⟩
        case measure => simp [intOf]; omega
    · obtain rfl : k = n := by omega
      have HN : Hid _ := HFr.out.new (Nat.le_refl _)
      go_wp2_with fail
      go_ret
      exact HN.out

set_option maxHeartbeats 1000000 in
theorem marks_any (f : Nat → Bool) (s : ByteArray) (hs : s.size ≤ 1000000) (w : World) :
    Calls Tryd.prog 12 #[.string s, .agg #[.int .u64 ((wd (f) 0 : Nat) : Int), .int .u64 ((wd (f) 1 : Nat) : Int), .int .u64 ((wd (f) 2 : Nat) : Int), .int .u64 ((wd (f) 3 : Nat) : Int)]] w (New w s.size (km s f)) := by
  obtain ⟨w1, e1⟩ : ∃ w1, w1 = w.alloc (.cells #[.string s] 9) := ⟨_, rfl⟩
  have x1 : Boxed w1 w.heap.size 9 (.string s) := by rw [e1]; exact Boxed.new w _ _
  have b1 : Below w.heap.size w w1 := by rw [e1]; exact (Below.refl _ _).alloc (Nat.le_refl _) _
  obtain ⟨w2, b2⟩ := box w1 f
  have z1 : w.heap.size + 1 = w1.heap.size := by rw [e1, World.size_alloc]
  have ct : w2.cell? ⟨w.heap.size, 0, none⟩ = some (.string s) := (b2.bel.cell (p := ⟨w.heap.size, 0, none⟩) x1.lt).trans x1.cell
  have E1 : Hid _ := e1
  have E2 : Hid _ := b2.eq
  have Z1 : Hid _ := z1
  have cm : Hid _ := markedM_any f s w1.heap.size w.heap.size hs w2 b2.fam ct
  have B2 : Hid (Below w.heap.size w w2) := b1.trans (b2.bel.mono b1.size)
  clear e1 x1 b1 b2 z1
  go_enter Tryd.func12, Tryd.ntmps12
  go_wp2_with (first | rw [← E1.out, ← E2.out, Z1.out])
  refine Calls.mono (Hid.out cm) ?_; rintro e w3 ⟨g, rfl, f3, h3, l3, b3⟩
  have HN : Hid (New w s.size (km s f) (.returned (.slice (some ⟨g, 0, none⟩) s.size s.size)) w3) := ⟨g, rfl, f3, Nat.le_trans B2.out.size h3, l3, B2.out.trans (b3.mono B2.out.size)⟩
  clear f3 h3 l3 b3 E1 E2 Z1 ct cm
  go_wp2_with fail
  go_ret
  exact HN.out

set_option maxHeartbeats 1000000 in
theorem places11_any (P : Nat → Nat → Bool) (f : Nat → Bool) (n cap : Nat) (ao : Option Addr) (K : Int) (hn : n ≤ 1000000) (w : World) (hl : Lf w ao n P) :
    Calls Tryd.prog 14 #[.agg #[.slice ao n cap, .int .i64 K], .agg #[.int .u64 ((wd (f) 0 : Nat) : Int), .int .u64 ((wd (f) 1 : Nat) : Int), .int .u64 ((wd (f) 2 : Nat) : Int), .int .u64 ((wd (f) 3 : Nat) : Int)]] w (New w n (kp P f)) := by
  obtain ⟨w1, b1⟩ := lbox w (.slice ao n cap) (.int .i64 K)
  obtain ⟨w2, b2⟩ := box w1 f
  have z1 : w.heap.size + 1 = w1.heap.size := b1.size.symm
  have s1 : w.heap.size < w1.heap.size := by omega
  have ct := two_below ⟨b1.c0, b1.c1⟩ b2.bel s1
  have c0 := ct.1
  have E1 : Hid _ := b1.eq
  have E2 : Hid _ := b2.eq
  have Z1 : Hid _ := z1
  have cm : Hid _ := markedP_any P f w.heap.size w1.heap.size n cap ao hn w2 b2.fam c0 ((hl.grow b1.bel).grow b2.bel)
  have B2 : Hid (Below w.heap.size w w2) := b1.bel.trans (b2.bel.mono b1.bel.size)
  clear b1 b2 z1 ct hl
  go_enter Tryd.func14, Tryd.ntmps14
  go_wp2_with (first | rw [← E1.out, ← E2.out, Z1.out])
  refine Calls.mono (Hid.out cm) ?_; rintro e w3 ⟨g, rfl, f3, h3, l3, b3⟩
  have HN : Hid (New w n (kp P f) (.returned (.slice (some ⟨g, 0, none⟩) n n)) w3) := ⟨g, rfl, f3, Nat.le_trans B2.out.size h3, l3, B2.out.trans (b3.mono B2.out.size)⟩
  clear f3 h3 l3 b3 E1 E2 Z1 c0 cm
  go_wp2_with fail
  go_ret
  exact HN.out

end Cls
end Go.Proofs.YtppmmobmoanagaaDoor
