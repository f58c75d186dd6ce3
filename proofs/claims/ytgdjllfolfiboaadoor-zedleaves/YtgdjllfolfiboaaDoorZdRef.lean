/- Contracts of the document's Rows, Find, Period, Leaf of layer 9. -/
import Derived.Test.YtgdjllfolfiboaaDoorZdRows
import Derived.Test.YtgdjllfolfiboaaDoorLfA
namespace Go.Proofs.YtgdjllfolfiboaaDoor
open Go.RowKit
namespace Cls

def rwk (s : ByteArray) (k : Nat) : List Nat := (List.range k).map (zr s)

theorem rwk_succ (s : ByteArray) (k : Nat) : rwk s (k + 1) = rwk s k ++ [zr s k] := by unfold rwk; rw [List.range_succ, List.map_append]; rfl

theorem rwk_len (s : ByteArray) (k : Nat) : (rwk s k).length = k := by simp [rwk]

set_option maxHeartbeats 2000000 in
theorem refRows_any (s : ByteArray) (hs : s.size ≤ 1000000) (w : World) :
    Calls Tryd.prog 12 #[.string s] w (Told w (rwl s)) := by
  obtain ⟨i0, hi, hz0, hz1, hz2⟩ := infoI
  go_enter Tryd.func12, Tryd.ntmps12
  go_wp2_with fail
  go_loopw [3, 4] (fun vo vk wr => Below w.heap.size w wr ∧ ∃ k : Nat, k ≤ s.size ∧ vk = .int .i64 k ∧ OwnI wr w.heap.size vo (rwk s k)) (fun _ vk _ => s.size - (intOf vk).toNat)
  case atStart => exact ⟨Below.refl _ _, 0, Nat.zero_le _, rfl, World.ownsRow_nil _ _ _ _⟩
  case round =>
    obtain ⟨hbel, k, hk, rfl, hown⟩ := hrel
    have HB : Hid _ := hbel
    have HO : Hid (wr.ownsRow w.heap.size 3 1 u3 (rwk s k).length (pls (rwk s k))) := hown
    clear hbel hown
    by_cases hkn : k < s.size
    · have hkI : (k : Int) < (s.size : Int) := by omega
      have HS : Hid (Zp s s k 0) := Zp.zero hk
      have HW' : Hid _ := rwk_succ s k
      have hlen : (rwk s k).length ≤ k := Nat.le_of_eq (rwk_len s k)
      go_wp2_with fail
      rename World => wo
      go_loopw [5] (fun vx wr => Wrote (fun _ _ => False) wo wr ∧ ∃ x : Nat, vx = .int .i64 x ∧ Zp s s k x) (fun vx _ => s.size - (intOf vx).toNat)
      case atStart => exact ⟨Wrote.refl _ _, 0, rfl, HS.out⟩
      case round =>
        clear HS
        obtain ⟨hwr, x, rfl, hzp⟩ := hrel
        have HWr : Hid _ := hwr
        have HZ : Hid _ := hzp
        have h1 := hzp.lp
        have h2' := hzp.le
        clear hwr hzp
        obtain ⟨z, hz⟩ : ∃ z, k + x = z := ⟨_, rfl⟩
        have hzI : (k : Int) + (x : Int) = (z : Int) := by omega
        have hwz : IntKind.i64.wrap ((k : Int) + (x : Int)) = (z : Int) := by rw [hzI, IntKind.wrap_i64]; omega
        by_cases hgo : z < s.size ∧ byt s x = byt s z
        · obtain ⟨g2, g3⟩ := hgo
          have k2 : (z : Int) < (s.size : Int) := by omega
          have k1 : (x : Int) < (s.size : Int) := by omega
          have ix := idx_str s x (by omega)
          have iz := idx_str s z g2
          have HM : Hid (Zp s s k (x + 1)) := HZ.out.more (by omega) (by omega) (by rw [hz]; exact g3)
          have HWd : Hid (∀ q, Wrote (fun _ _ => False) wo (wr.drewN q)) := fun q => HWr.out.drewN q
          rw [g3] at ix
          have hb := byt_lt s z
          clear g3
          go_wp2_with fail
          go_quiet (fail)
          go_wp2_with fail
          go_roundw
          case rel => exact ⟨HWd.out _, x + 1, by go_num, HM.out⟩
          case measure => simp [intOf]; omega
        · have hE : Zg s s k x := ⟨HZ.out.lp, HZ.out.le, HZ.out.same, by
            rw [hz]
            by_cases e2 : z < s.size
            · exact Or.inr (Or.inr (fun e3 => hgo ⟨e2, e3⟩))
            · exact Or.inr (Or.inl (by omega))⟩
          have hxz := hE.zr
          rw [← hxz] at HW'
          have HWd : Hid (∀ q, Wrote (fun _ _ => False) wo (wr.drewN q)) := fun q => HWr.out.drewN q
          clear hE hxz HZ HWr
          by_cases g2 : z < s.size
          · have k2 : (z : Int) < (s.size : Int) := by omega
            have k1 : (x : Int) < (s.size : Int) := by omega
            have ix := idx_str s x (by omega)
            have iz := idx_str s z g2
            have hb := byt_lt s z
            have hb2 := byt_lt s x
            have g3 : byt s x ≠ byt s z := fun e => hgo ⟨g2, e⟩
            have k3 : ¬ ((byt s x : Nat) : Int) = ((byt s z : Nat) : Int) := by omega
            have k4 : (((byt s x : Nat) : Int) == ((byt s z : Nat) : Int)) = false := by simpa using k3
            clear hgo g3 hz
            go_wp2_with fail
            go_quiet (fail)
            obtain ⟨w3, e3⟩ : ∃ w3, w3 = wr.drewN nq := ⟨_, rfl⟩
            have h3 := HWd.out nq
            rw [← e3] at h3 ⊢
            have HB3 : Hid (Below w.heap.size w w3) := HB.out.trans (h3.below (fun _ _ e => e.elim))
            have hsz : w.heap.size ≤ w3.heap.size := HB3.out.size
            have O3 : w3.ownsRow w.heap.size 3 1 u3 (rwk s k).length (pls (rwk s k)) := ownsRow_block HO.out (fun g _ hg => h3.block g (fun _ e => e))
            clear h3 e3 HO HWd HB
            go_wp2_with (first | (at_builtin; refine wpList_append_own _ rfl _ _ 24 rfl w.heap.size 3 i0 (.int .i64 0) 1 8 Tryd.underlying24 hi hz0 hz1 hz2 rfl (by decide) _ _ _ rfl (O3.alloc _) ⟨w3.heap.size, 0, none⟩ 1 1 [.int .i64 ((x : Nat) : Int)] rfl rfl ?c1 ?c2 ?c3 ?c4 ?c5 ?_))
            case c1 =>
              intro j' u hj'
              match j', hj' with
              | 0, hj' => simp at hj'; subst hj'; simp [Addr.add]
            case c2 => intro u hu; simp at hu; subst hu; rfl
            case c3 => unfold maxLen; omega
            case c4 => omega
            case c5 => simp; omega
            · intro v' w4 hown' hgrow _
              have HR : Hid (Below w.heap.size w w4) := grow_below hsz HB3.out O3 hgrow
              have HO4 : Hid (OwnI w4 w.heap.size v' (rwk s (k + 1))) := by show OwnI _ _ _ _; unfold OwnI; rw [HW'.out, List.length_append, pls, List.map_append]; exact hown'
              clear hown' hgrow O3 HB3
              go_wp2_with fail
              go_roundw
              case rel => exact ⟨HR.out, k + 1, by omega, by go_num, HO4.out⟩
              case measure => simp [intOf]; omega
          · have k2 : ¬ (z : Int) < (s.size : Int) := by omega
            clear hgo hz
            go_wp2_with fail
            go_quiet (fail)
            obtain ⟨w3, e3⟩ : ∃ w3, w3 = wr.drewN nq := ⟨_, rfl⟩
            have h3 := HWd.out nq
            rw [← e3] at h3 ⊢
            have HB3 : Hid (Below w.heap.size w w3) := HB.out.trans (h3.below (fun _ _ e => e.elim))
            have hsz : w.heap.size ≤ w3.heap.size := HB3.out.size
            have O3 : w3.ownsRow w.heap.size 3 1 u3 (rwk s k).length (pls (rwk s k)) := ownsRow_block HO.out (fun g _ hg => h3.block g (fun _ e => e))
            clear h3 e3 HO HWd HB
            go_wp2_with (first | (at_builtin; refine wpList_append_own _ rfl _ _ 24 rfl w.heap.size 3 i0 (.int .i64 0) 1 8 Tryd.underlying24 hi hz0 hz1 hz2 rfl (by decide) _ _ _ rfl (O3.alloc _) ⟨w3.heap.size, 0, none⟩ 1 1 [.int .i64 ((x : Nat) : Int)] rfl rfl ?c1 ?c2 ?c3 ?c4 ?c5 ?_))
            case c1 =>
              intro j' u hj'
              match j', hj' with
              | 0, hj' => simp at hj'; subst hj'; simp [Addr.add]
            case c2 => intro u hu; simp at hu; subst hu; rfl
            case c3 => unfold maxLen; omega
            case c4 => omega
            case c5 => simp; omega
            · intro v' w4 hown' hgrow _
              have HR : Hid (Below w.heap.size w w4) := grow_below hsz HB3.out O3 hgrow
              have HO4 : Hid (OwnI w4 w.heap.size v' (rwk s (k + 1))) := by show OwnI _ _ _ _; unfold OwnI; rw [HW'.out, List.length_append, pls, List.map_append]; exact hown'
              clear hown' hgrow O3 HB3
              go_wp2_with fail
              go_roundw
              case rel => exact ⟨HR.out, k + 1, by omega, by go_num, HO4.out⟩
              case measure => simp [intOf]; omega
    · obtain rfl : k = s.size := by omega
      have HT : Hid (Told w (rwl s) (.returned u3) wr) := told_of HO.out HB.out
      obtain ⟨⟨bo, d, e, _⟩, _⟩ := HT.out
      cases e
      clear HO
      go_wp2_with fail
      go_ret
      exact HT.out

end Cls
end Go.Proofs.YtgdjllfolfiboaaDoor
