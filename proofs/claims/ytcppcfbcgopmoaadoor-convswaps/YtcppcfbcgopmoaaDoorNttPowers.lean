/- Contracts of ntt.powersOf and ntt.transformed. -/
import Derived.Test.YtcppcfbcgopmoaaDoorNttTrans
import Derived.Test.YtcppcfbcgopmoaaDoorNttLog
import Derived.OwnWalk
import Derived.Deep.RegionWith
import Derived.Deep.DrawnRows
namespace Go.Proofs.YtcppcfbcgopmoaaDoor
open Go.RowKit Res

set_option maxHeartbeats 400000 in
theorem powersOf_any (k r : Int) (n : Nat) (hn : n ≤ 4096) (hr : 0 ≤ r) (w : World) (hT : Tab w) :
    Calls Tryd.prog 45 #[.int .i64 k, .int .u64 r, .int .i64 n] w fun e w' =>
      e = .returned (.slice (some ⟨w.heap.size, 0, none⟩) n n) ∧ Fam w' w.heap.size 0 n (fun i => md k (r ^ i)) ∧ Below w.heap.size w w' ∧ w.heap.size < w'.heap.size := by
  have hmk := run_make_row' (P := Tryd.prog) 22 26 (.int .u64 0) 8 Tryd.underlying22 infoU rfl .i64 .i64 n (by omega) (by omega)
  have hT1 := hT.alloc (.cells (madeCells #[.int .u64 0] n) 26)
  have hf1 := fam_made w n 26
  have hw1 := wrt_made w n 26
  have hB : Hid (Below w.heap.size w (w.alloc (.cells (madeCells #[.int .u64 0] n) 26))) := (Below.refl _ _).alloc (Nat.le_refl _) _
  have hS : Hid ((w.alloc (.cells (madeCells #[.int .u64 0] n) 26)).heap.size = w.heap.size + 1) := by show (w.heap.push _).size = _; simp
  have hlt := tab_lt hT
  generalize hw1e : w.alloc (.cells (madeCells #[.int .u64 0] n) 26) = w1 at *
  have H1 : Hid _ := hw1e
  clear hw1e
  have hone : Hid (md k 1 = md k (r ^ 0)) := by show md k 1 = md k (r ^ 0); rw [Int.pow_zero]
  have F0 : Hid (Fill w1 w1 w.heap.size n 0 (fun i => md k (r ^ i)) (fun _ => 0)) := Fill.start _ hf1 hw1
  clear hf1 hw1 hT
  go_enter Tryd.func45, Tryd.ntmps45
  go_wp2_with fail
  rw [H1.out]
  clear H1 hmk
  refine Calls.mono (of_any k 1 w1 hT1 (by omega)) ?_; rintro e w' ⟨rfl, hw'⟩; subst w'
  go_wp2_with fail
  go_loopw [8, 15] (fun v vi wr => ∃ i : Nat, i ≤ n ∧ vi = .int .i64 i ∧ v = .int .u64 (md k (r ^ i)) ∧ Fill w1 wr w.heap.size n i (fun i => md k (r ^ i)) (fun _ => 0)) (fun _ vi _ => n - (intOf vi).toNat)
  case atStart => exact ⟨0, Nat.zero_le _, rfl, by rw [hone.out], F0.out⟩
  case round =>
    obtain ⟨i, hi, rfl, rfl, hF⟩ := hrel
    have HF : Hid _ := hF
    have hc := hF.fam.zero
    have hf := hF.wrt.zero
    have hTr : Tab wr := hT1.wrote hF.wrote (fun o e => by omega)
    clear hF
    by_cases hlt2 : i < n
    · have hs := HF.out.step hlt2 (x := md k (r ^ i)) rfl
      have HS : Hid _ := hs
      have hTs : Tab (wr.setCell ⟨w.heap.size, i, none⟩ (.int .u64 (md k (r ^ i)))) := hTr.setCell (by omega) _
      have hm : Hid (md k (md k (r ^ i) * r) = md k (r ^ (i + 1))) := by show md k (md k (r ^ i) * r) = _; rw [md_mul_l, ← Int.pow_succ]
      have hx0 := md_nonneg k (r ^ i)
      clear hs HF
      generalize md k (r ^ i) = x at *
      go_wp2_with fail
      refine Calls.mono (mul_any k x r _ hTs hx0 hr) ?_; rintro e w' ⟨rfl, hw'⟩; subst w'
      go_wp2_with fail
      go_roundw
      case rel => exact ⟨i + 1, by omega, by go_num, by rw [hm.out], HS.out⟩
      case measure => simp [intOf]; omega
    · have hfin : Hid (Fam wr w.heap.size 0 n (fun i => md k (r ^ i))) := HF.out.fin (by omega)
      have hbel : Hid (Below w.heap.size w wr) := hB.out.trans (HF.out.wrote.below (fun b o e => by omega))
      have hsz : Hid (w.heap.size < wr.heap.size) := by show w.heap.size < wr.heap.size; rw [HF.out.wrote.size, hS.out]; omega
      clear hc hf
      go_wp2_with fail
      go_ret
      exact ⟨rfl, hfin.out, hbel.out, hsz.out⟩
end Go.Proofs.YtcppcfbcgopmoaaDoor
