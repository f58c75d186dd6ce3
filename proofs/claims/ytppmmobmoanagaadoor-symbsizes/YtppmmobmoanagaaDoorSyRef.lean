/- Contracts of the document's own answers of layer 11: Marks, Places, Check, Counts, Find. -/
import Derived.Test.YtppmmobmoanagaaDoorSyDef
import Derived.Test.YtppmmobmoanagaaDoorNvA
import Derived.Test.YtppmmobmoanagaaDoorLfA
import Derived.Test.YtppmmobmoanagaaDoorWdSize
import Derived.Test.YtppmmobmoanagaaDoorConvLaw
import Derived.Deep.RegionHeld3
namespace Go.Proofs.YtppmmobmoanagaaDoor
open Go.RowKit Res
namespace Cls

/-- A row is told. -/
def ToldU (w : World) (n : Nat) (F : Nat → Int) (e : Ending) (w' : World) : Prop := (∃ ao c, e = .returned (.slice ao n c) ∧ Lies w' ao n F) ∧ Below w.heap.size w w'

set_option maxHeartbeats 4000000 in
theorem refMarks_any (f : Nat → Bool) (s : ByteArray) (hs : s.size ≤ 1000000) (w : World) :
    Calls Tryd.prog 13 #[.string s, .agg #[.int .u64 ((wd (f) 0 : Nat) : Int), .int .u64 ((wd (f) 1 : Nat) : Int), .int .u64 ((wd (f) 2 : Nat) : Int), .int .u64 ((wd (f) 3 : Nat) : Int)]] w (ToldU w s.size (km s f)) := by
  obtain ⟨w1, b1⟩ := box w f
  have E1 : Hid _ := b1.eq
  have B1 : Hid (Below w.heap.size w w1) := b1.bel
  have F1 : Hid (Fam w1 w.heap.size 0 4 (wi f)) := b1.fam
  obtain ⟨i0, hi, hz0, hz1, hz2⟩ := info_parts infoU
  clear b1
  go_enter Tryd.func13, Tryd.ntmps13
  go_wp2_with (first | rw [← E1.out])
  clear E1
  go_loopw [5, 6] (fun vo vk wr => Below w1.heap.size w1 wr ∧ ∃ k : Nat, k ≤ s.size ∧ vk = .int .i64 k ∧ Own wr w1.heap.size vo k (km s f)) (fun _ vk _ => s.size - (intOf vk).toNat)
  case atStart => exact ⟨Below.refl _ _, 0, Nat.zero_le _, rfl, own_nil _ _ _⟩
  case round =>
    obtain ⟨hbel, k, hk, rfl, hown⟩ := hrel
    have HB : Hid _ := hbel
    have HO : Hid _ := hown
    have hbc : w.heap.size < w1.heap.size := (show Fam w1 w.heap.size 0 4 (wi f) from F1.out).lt (by omega)
    have Fr : Hid (Fam wr w.heap.size 0 4 (wi f)) := (show Fam w1 w.heap.size 0 4 (wi f) from F1.out).below hbel hbc
    have hbr : w.heap.size < wr.heap.size := Nat.lt_of_lt_of_le hbc hbel.size
    clear hbel hown
    by_cases hkn : k < s.size
    · obtain ⟨a0, a1, a2, a3⟩ := c4 Fr.out
      have hkI : (k : Int) < (s.size : Int) := by omega
      have hbt := byt_lt s k
      have hidx := idx_str s k hkn
      have hcc : Hid _ := fun v => refHas_any f (byt s k) hbt v
      go_wp2_with fail
      go_region_held3 (fun w' => w'.cell? ⟨w.heap.size, 0, none⟩ = some (.int .u64 ((wd f 0 : Nat) : Int)) ∧ w'.cell? ⟨w.heap.size, 1, none⟩ = some (.int .u64 ((wd f 1 : Nat) : Int)) ∧ w'.cell? ⟨w.heap.size, 2, none⟩ = some (.int .u64 ((wd f 2 : Nat) : Int)) ∧ w'.cell? ⟨w.heap.size, 3, none⟩ = some (.int .u64 ((wd f 3 : Nat) : Int))) (go_keep)
        (first | (go_at_call 32; refine Calls.mono (hcc.out _) ?_; rintro e w3 ⟨rfl, b3⟩; have b3' : Below wr.heap.size wr w3 := undrew b3; have HB3 : Hid (Below w1.heap.size w1 w3) := HB.out.trans (b3'.mono HB.out.size); have HO3 : Hid (Own w3 w1.heap.size u5 k (km s f)) := owns_below (show wr.ownsRow w1.heap.size 25 1 u5 k (cellsOf (km s f) k) from HO.out) b3' (Nat.le_refl _); obtain ⟨m0, m1, m2, m3⟩ := c4 (Fam.below (show Fam wr w.heap.size 0 4 (wi f) from Fr.out) b3' hbr); clear b3 b3'))
      cases hb : f (byt s k) with
      | true =>
        have HK : Hid ((1 : Int) = km s f k) := by show _ = _; unfold km; rw [hb]; rfl
        clear hb
        have hown := HO3.out
        have hsz2 := HB3.out.size
        unfold Own at hown
        go_wp2_with (at_builtin; refine wpList_append_own _ rfl _ _ 31 rfl w1.heap.size 25 i0 (.int .u64 0) 1 8 Tryd.underlying31 hi hz0 hz1 hz2 rfl (by decide) _ _ _ rfl (hown.alloc _) ⟨w3.heap.size, 0, none⟩ 1 1 [.int .u64 1] rfl rfl ?c1 ?c2 ?c3 ?c4 ?c5 ?_)
        case c1 =>
          intro j' u hj'
          match j', hj' with
          | 0, hj' => simp at hj'; subst hj'; simp [Addr.add]
        case c2 => intro u hu; simp at hu; subst hu; rfl
        case c3 => unfold maxLen; omega
        case c4 => omega
        case c5 => simp; omega
        · intro v' w6 hown' hgrow _
          have HR : Hid _ := own_step HK.out hsz2 HB3.out HO3.out hown' hgrow
          clear hown' hgrow hown
          go_wp2_with fail
          go_roundw
          case rel => exact ⟨HR.out.2, k + 1, by omega, by go_num, HR.out.1⟩
          case measure => simp [intOf]; omega
      | false =>
        have HK : Hid ((0 : Int) = km s f k) := by show _ = _; unfold km; rw [hb]; rfl
        clear hb
        have hown := HO3.out
        have hsz2 := HB3.out.size
        unfold Own at hown
        go_wp2_with (at_builtin; refine wpList_append_own _ rfl _ _ 31 rfl w1.heap.size 25 i0 (.int .u64 0) 1 8 Tryd.underlying31 hi hz0 hz1 hz2 rfl (by decide) _ _ _ rfl (hown.alloc _) ⟨w3.heap.size, 0, none⟩ 1 1 [.int .u64 0] rfl rfl ?c1 ?c2 ?c3 ?c4 ?c5 ?_)
        case c1 =>
          intro j' u hj'
          match j', hj' with
          | 0, hj' => simp at hj'; subst hj'; simp [Addr.add]
        case c2 => intro u hu; simp at hu; subst hu; rfl
        case c3 => unfold maxLen; omega
        case c4 => omega
        case c5 => simp; omega
        · intro v' w6 hown' hgrow _
          have HR : Hid _ := own_step HK.out hsz2 HB3.out HO3.out hown' hgrow
          clear hown' hgrow hown
          go_wp2_with fail
          go_roundw
          case rel => exact ⟨HR.out.2, k + 1, by omega, by go_num, HR.out.1⟩
          case measure => simp [intOf]; omega
    · obtain rfl : k = s.size := by omega
      obtain ⟨ro, rc, re, rl⟩ := own_lies HO.out
      subst re
      have HT : Hid (ToldU w s.size (km s f) (.returned (.slice ro s.size rc)) wr) := ⟨⟨_, _, rfl, rl⟩, B1.out.trans (HB.out.mono B1.out.size)⟩
      clear rl HO
      go_wp2_with fail
      go_ret
      exact HT.out

set_option maxHeartbeats 4000000 in
theorem refPlaces11_any (P : Nat → Nat → Bool) (f : Nat → Bool) (n cap : Nat) (ao : Option Addr) (K : Int) (hn : n ≤ 1000000) (w : World) (hl : Lf w ao n P) :
    Calls Tryd.prog 15 #[.agg #[.slice ao n cap, .int .i64 K], .agg #[.int .u64 ((wd (f) 0 : Nat) : Int), .int .u64 ((wd (f) 1 : Nat) : Int), .int .u64 ((wd (f) 2 : Nat) : Int), .int .u64 ((wd (f) 3 : Nat) : Int)]] w (ToldU w n (kp P f)) := by
  obtain ⟨w0, b0⟩ := lbox w (.slice ao n cap) (.int .i64 K)
  obtain ⟨w1, b1⟩ := box w0 f
  have E0 : Hid _ := b0.eq
  have E1 : Hid _ := b1.eq
  have HS : Hid (w.heap.size + 1 = w0.heap.size) := b0.size.symm
  have s0 : w.heap.size < w0.heap.size := by have := b0.size; omega
  have HC : Hid (w1.cell? ⟨w.heap.size, 0, none⟩ = some (.slice ao n cap) ∧ w1.cell? ⟨w.heap.size, 1, none⟩ = some (.int .i64 K)) := two_below ⟨b0.c0, b0.c1⟩ b1.bel s0
  have B1 : Hid (Below w.heap.size w w1) := b0.bel.trans (b1.bel.mono b0.bel.size)
  have F1 : Hid (Fam w1 w0.heap.size 0 4 (wi f)) := b1.fam
  have HL1 : Hid (Lf w1 ao n P) := hl.grow B1.out
  have s1 : w0.heap.size < w1.heap.size := (b1.fam).lt (by omega)
  obtain ⟨i0, hi, hz0, hz1, hz2⟩ := info_parts infoU
  clear b0 b1 hl
  go_enter Tryd.func15, Tryd.ntmps15
  go_wp2_with (first | rw [← E0.out, ← E1.out, HS.out])
  clear E0 E1 HS
  generalize w0.heap.size = gc at *
  go_loopw [5, 6] (fun vo vk wr => Below w1.heap.size w1 wr ∧ ∃ k : Nat, k ≤ n ∧ vk = .int .i64 k ∧ Own wr w1.heap.size vo k (kp P f)) (fun _ vk _ => n - (intOf vk).toNat)
  case atStart => exact ⟨Below.refl _ _, 0, Nat.zero_le _, rfl, own_nil _ _ _⟩
  case round =>
    obtain ⟨hbel, k, hk, rfl, hown⟩ := hrel
    have HB : Hid _ := hbel
    have HO : Hid _ := hown
    have F2 : Fam wr gc 0 4 (wi f) := (show Fam w1 gc 0 4 (wi f) from F1.out).below hbel s1
    have HLr : Hid (Lf wr ao n P) := HL1.out.grow hbel
    have d0 := (two_below HC.out hbel (by omega)).1
    clear hbel hown
    by_cases hkn : k < n
    · obtain ⟨b, o, rfl, hb, hC⟩ := HLr.out.lies (by omega)
      obtain ⟨c0, c1, c2, c3⟩ := hC.four hkn
      obtain ⟨a0, a1, a2, a3⟩ := c4 F2
      have hkI : (k : Int) < (n : Int) := by omega
      clear hC F2
      go_wp2_with fail
      go_quiet (fail)
      have HB3 : Hid (Below w1.heap.size w1 (wr.drewN nq)) := below_drewN HB.out nq
      have HO3 : Hid (Own (wr.drewN nq) w1.heap.size u5 k (kp P f)) := HO.out
      clear HO
      generalize wr.drewN nq = w3 at *
      cases hb : sm (P k) f with
      | true =>
        have HK : Hid ((1 : Int) = kp P f k) := by show _ = _; unfold kp; rw [hb]; rfl
        clear hb
        have hown := HO3.out
        have hsz2 := HB3.out.size
        unfold Own at hown
        go_wp2_with (at_builtin; refine wpList_append_own _ rfl _ _ 31 rfl w1.heap.size 25 i0 (.int .u64 0) 1 8 Tryd.underlying31 hi hz0 hz1 hz2 rfl (by decide) _ _ _ rfl (hown.alloc _) ⟨w3.heap.size, 0, none⟩ 1 1 [.int .u64 1] rfl rfl ?c1 ?c2 ?c3 ?c4 ?c5 ?_)
        case c1 =>
          intro j' u hj'
          match j', hj' with
          | 0, hj' => simp at hj'; subst hj'; simp [Addr.add]
        case c2 => intro u hu; simp at hu; subst hu; rfl
        case c3 => unfold maxLen; omega
        case c4 => omega
        case c5 => simp; omega
        · intro v' w6 hown' hgrow _
          have HR : Hid _ := own_step HK.out hsz2 HB3.out HO3.out hown' hgrow
          clear hown' hgrow hown
          go_wp2_with fail
          go_roundw
          case rel => exact ⟨HR.out.2, k + 1, by omega, by go_num, HR.out.1⟩
          case measure => simp [intOf]; omega
      | false =>
        have HK : Hid ((0 : Int) = kp P f k) := by show _ = _; unfold kp; rw [hb]; rfl
        clear hb
        have hown := HO3.out
        have hsz2 := HB3.out.size
        unfold Own at hown
        go_wp2_with (at_builtin; refine wpList_append_own _ rfl _ _ 31 rfl w1.heap.size 25 i0 (.int .u64 0) 1 8 Tryd.underlying31 hi hz0 hz1 hz2 rfl (by decide) _ _ _ rfl (hown.alloc _) ⟨w3.heap.size, 0, none⟩ 1 1 [.int .u64 0] rfl rfl ?c1 ?c2 ?c3 ?c4 ?c5 ?_)
        case c1 =>
          intro j' u hj'
          match j', hj' with
          | 0, hj' => simp at hj'; subst hj'; simp [Addr.add]
        case c2 => intro u hu; simp at hu; subst hu; rfl
        case c3 => unfold maxLen; omega
        case c4 => omega
        case c5 => simp; omega
        · intro v' w6 hown' hgrow _
          have HR : Hid _ := own_step HK.out hsz2 HB3.out HO3.out hown' hgrow
          clear hown' hgrow hown
          go_wp2_with fail
          go_roundw
          case rel => exact ⟨HR.out.2, k + 1, by omega, by go_num, HR.out.1⟩
          case measure => simp [intOf]; omega
    · obtain rfl : k = n := by omega
      obtain ⟨ro, rc, re, rl⟩ := own_lies HO.out
      subst re
      have HT : Hid (ToldU w k (kp P f) (.returned (.slice ro k rc)) wr) := ⟨⟨_, _, rfl, rl⟩, B1.out.trans (HB.out.mono B1.out.size)⟩
      clear rl HO F2
      go_wp2_with fail
      go_ret
      exact HT.out

end Cls
end Go.Proofs.YtppmmobmoanagaaDoor
