/- Contract of ntt.transformed: a new row with the transform; nothing that was there turns. -/
import Derived.Test.YtcppcfbcgopmoaaDoorNttPowers
namespace Go.Proofs.YtcppcfbcgopmoaaDoor
open Go.RowKit Res
attribute [local go_sem ↓] Go.wp_at_zero Go.wp_at_succ

/-- The call of transform, as 'transformed' makes it. -/
theorem transform_call (k : Int) (hp : pr k ≠ 0) (m n h : Nat) (hn : n = 2 ^ m) (hh : h = n / 2) (hm : m ≤ 12) (r : Int) (hx : m = 0 ∨ md k (r ^ (2 ^ (m - 1))) = pr k - 1) (L : Nat → Int)
    (B sb pb : Nat) (h1 : B ≠ sb) (h2 : B ≠ pb) (h3 : sb ≠ pb) (h4 : B ≠ 0) (h5 : sb ≠ 0) (v : World) (hT : Tab v) (hf : Fam v B 0 n (fun t => md k (L t))) (hw : Wrt v B 0 n) (hs : Fam v sb 0 n (fun _ => 0)) (hsw : Wrt v sb 0 n) (hpw : Fam v pb 0 h (fun i => md k (r ^ i))) :
    Calls Tryd.prog 44 #[.int .i64 k, .slice (some ⟨B, 0, none⟩) n n, .slice (some ⟨sb, 0, none⟩) n n, .slice (some ⟨pb, 0, none⟩) h h] v fun e w' =>
      e = .returned (.tuple #[]) ∧ Fam w' B 0 n (dft k r n L) ∧ Wrt w' B 0 n ∧ Wrote (fun b _ => b = B ∨ b = sb) v w' := by
  have hle : n ≤ 4096 := by rw [hn]; exact Nat.pow_le_pow_right (by omega) hm
  have hP : m = 0 ∨ (h = 2 ^ (m - 1) * 1 ∧ md k (r ^ h) = pr k - 1) := by
    cases m with
    | zero => exact Or.inl rfl
    | succ m =>
      have e : h = 2 ^ m := by rw [hh, hn, Nat.pow_succ]; omega
      refine Or.inr ⟨by rw [e]; simp, ?_⟩
      rcases hx with hx | hx
      · omega
      · rw [e]; exact hx
  refine (transform_any k hp r h pb 0 h (by omega) m n 1 hn (by omega) hm hP B 0 n sb 0 n h1 h2 h3 h4 h5 (Nat.le_refl _) (Nat.le_refl _) (fun t => md k (L t)) v hT (fun t => md_nonneg _ _) (fun t => md_lt hp _) hf hw (fun _ => 0) hs hsw hpw).mono ?_
  rintro e w' ⟨he, hd, _, hwr⟩
  refine ⟨he, hd.congr (fun t _ => ?_), hwr.wrt hw, hwr.mono (fun b o e => ?_)⟩
  · exact dft_congr (Eqm.of (by rw [Int.pow_succ, Int.pow_zero, Int.one_mul])) (fun i _ => md_md _ _)
  · rcases e with e | e
    · exact Or.inl e.1
    · exact Or.inr e.1

/-- All is laid for the call of transform. -/
structure Ready (w : World) (k r : Int) (n h : Nat) (L : Nat → Int) (sb pb : Nat) (v : World) : Prop where
  h1 : w.heap.size ≠ sb
  h2 : w.heap.size ≠ pb
  h3 : sb ≠ pb
  h5 : w.heap.size ≤ sb
  hT : Tab v
  hf : Fam v w.heap.size 0 n (fun t => md k (L t))
  hw : Wrt v w.heap.size 0 n
  hs : Fam v sb 0 n (fun _ => 0)
  hsw : Wrt v sb 0 n
  hpw : Fam v pb 0 h (fun i => md k (r ^ i))
  hb : Below w.heap.size w v
  hz : w.heap.size < v.heap.size
theorem Ready.drew {w : World} {k r : Int} {n h : Nat} {L : Nat → Int} {sb pb : Nat} {v : World} (R : Ready w k r n h L sb pb v) : Ready w k r n h L sb pb v.drew := ⟨R.h1, R.h2, R.h3, R.h5, R.hT, R.hf, R.hw, R.hs, R.hsw, R.hpw, R.hb.drew, R.hz⟩
theorem ready_call (k : Int) (hp : pr k ≠ 0) (m n h : Nat) (hn : n = 2 ^ m) (hh : h = n / 2) (hm : m ≤ 12) (r : Int) (hx : m = 0 ∨ md k (r ^ (2 ^ (m - 1))) = pr k - 1) (L : Nat → Int) (w : World) (hT : Tab w) (sb pb : Nat) (v : World) (R : Ready w k r n h L sb pb v) :
    Calls Tryd.prog 44 #[.int .i64 k, .slice (some ⟨w.heap.size, 0, none⟩) n n, .slice (some ⟨sb, 0, none⟩) n n, .slice (some ⟨pb, 0, none⟩) h h] v fun e w' =>
      e = .returned (.tuple #[]) ∧ Fam w' w.heap.size 0 n (dft k r n L) ∧ Wrt w' w.heap.size 0 n ∧ Below w.heap.size w w' ∧ w.heap.size < w'.heap.size := by
  have h0 := tab_lt hT
  refine (transform_call k hp m n h hn hh hm r hx L w.heap.size sb pb R.h1 R.h2 R.h3 (by omega) (by have := R.h5; omega) v R.hT R.hf R.hw R.hs R.hsw R.hpw).mono ?_
  rintro e w' ⟨he, hf, hw, hwr⟩
  refine ⟨he, hf, hw, R.hb.trans (hwr.below (fun b o e => ?_)), by rw [hwr.size]; exact R.hz⟩
  rcases e with e | e
  · omega
  · have := R.h5; omega
/-- The spare row first, then the powers. -/
theorem readyA {w wr w3 : World} {k r : Int} {n h : Nat} {L : Nat → Int} (hTr : Tab wr) (hfin : Fam wr w.heap.size 0 n (fun i => md k (L i))) (hsz : w.heap.size < wr.heap.size) (hwrt : Wrt wr w.heap.size 0 n) (Hb : Below w.heap.size w wr) (t : TypeId)
    (hp3 : Fam w3 (wr.alloc (.cells (madeCells #[.int .u64 0] n) t)).heap.size 0 h (fun i => md k (r ^ i))) (hb3 : Below (wr.alloc (.cells (madeCells #[.int .u64 0] n) t)).heap.size (wr.alloc (.cells (madeCells #[.int .u64 0] n) t)) w3) :
    Ready w k r n h L wr.heap.size (wr.heap.size + 1) w3 := by
  have e : (wr.alloc (.cells (madeCells #[.int .u64 0] n) t)).heap.size = wr.heap.size + 1 := by show (wr.heap.push _).size = _; simp
  rw [e] at hp3 hb3
  have hle := hb3.size
  rw [e] at hle
  refine ⟨by omega, by omega, by omega, by omega, (hTr.alloc _).below hb3 (by have := tab_lt hTr; omega), (hfin.alloc _).below hb3 (by omega), (hwrt.alloc hsz _).below hb3 (by omega), (fam_made wr n t).below hb3 (by omega), (wrt_made wr n t).below hb3 (by omega), hp3, ?_, by omega⟩
  exact (Hb.alloc (by omega) _).trans (hb3.mono (by omega))
/-- The powers first, then the spare row. -/
theorem readyB {w wr w3 : World} {k r : Int} {n h : Nat} {L : Nat → Int} (hTr : Tab wr) (hfin : Fam wr w.heap.size 0 n (fun i => md k (L i))) (hsz : w.heap.size < wr.heap.size) (hwrt : Wrt wr w.heap.size 0 n) (Hb : Below w.heap.size w wr) (t : TypeId)
    (hp3 : Fam w3 wr.heap.size 0 h (fun i => md k (r ^ i))) (hb3 : Below wr.heap.size wr w3) (hs3 : wr.heap.size < w3.heap.size) :
    Ready w k r n h L w3.heap.size wr.heap.size (w3.alloc (.cells (madeCells #[.int .u64 0] n) t)) := by
  refine ⟨by omega, by omega, by omega, by omega, (hTr.below hb3 (tab_lt hTr)).alloc _, (hfin.below hb3 hsz).alloc _, (hwrt.below hb3 hsz).alloc (by omega) _, fam_made w3 n t, wrt_made w3 n t, hp3.alloc _, (Hb.trans (hb3.mono (by omega))).alloc (by omega) _, ?_⟩
  show _ < (w3.heap.push _).size
  simp; omega

set_option maxHeartbeats 1000000 in
theorem transformed_any (k : Int) (hp : pr k ≠ 0) (m n : Nat) (hn : n = 2 ^ m) (hm : m ≤ 12) (r : Int) (hr : 0 ≤ r) (hx : m = 0 ∨ md k (r ^ (2 ^ (m - 1))) = pr k - 1) (lb lo lc : Nat) (L : Nat → Int) (hL : ∀ t, 0 ≤ L t) (w : World) (hT : Tab w) (hl : Fam w lb lo n L) :
    Calls Tryd.prog 34 #[.int .i64 k, .slice (some ⟨lb, lo, none⟩) n lc, .int .u64 r] w fun e w' =>
      e = .returned (.slice (some ⟨w.heap.size, 0, none⟩) n n) ∧ Fam w' w.heap.size 0 n (dft k r n L) ∧ Wrt w' w.heap.size 0 n ∧ Below w.heap.size w w' ∧ w.heap.size < w'.heap.size := by
  have hle : n ≤ 4096 := by rw [hn]; exact Nat.pow_le_pow_right (by omega) hm
  have hpos : 1 ≤ n := by rw [hn]; exact Nat.one_le_two_pow
  have hlb : lb < w.heap.size := hl.lt (by omega)
  obtain ⟨h, hh⟩ : ∃ h, h = n / 2 := ⟨_, rfl⟩
  have eh : (n : Int) / 2 = (h : Int) := by omega
  have hle2 : h ≤ 4096 := by omega
  have ewh : IntKind.i64.wrap (h : Int) = (h : Int) := by rw [IntKind.wrap_i64]; omega
  have TC : Hid _ := ready_call k hp m n h hn hh hm r hx L w hT
  clear hx hn hm hp hh
  have hmk := run_make_row' (P := Tryd.prog) 22 26 (.int .u64 0) 8 Tryd.underlying22 infoU rfl .i64 .i64 n (by omega) (by omega)
  have hT1 := hT.alloc (.cells (madeCells #[.int .u64 0] n) 26)
  have hl1 := hl.alloc (.cells (madeCells #[.int .u64 0] n) 26)
  have hf1 := fam_made w n 26
  have hw1 := wrt_made w n 26
  have hB : Hid (Below w.heap.size w (w.alloc (.cells (madeCells #[.int .u64 0] n) 26))) := (Below.refl _ _).alloc (Nat.le_refl _) _
  have hS : Hid ((w.alloc (.cells (madeCells #[.int .u64 0] n) 26)).heap.size = w.heap.size + 1) := by show (w.heap.push _).size = _; simp
  have hlt := tab_lt hT
  generalize hw1e : w.alloc (.cells (madeCells #[.int .u64 0] n) 26) = w1 at *
  have H1 : Hid _ := hw1e
  clear hw1e
  have F0 : Hid (Fill w1 w1 w.heap.size n 0 (fun i => md k (L i)) (fun _ => 0)) := Fill.start _ hf1 hw1
  clear hf1 hw1 hT hl
  go_enter Tryd.func34, Tryd.ntmps34
  go_wp2_with fail
  rw [H1.out]
  clear H1
  go_loopw [15] (fun vi wr => ∃ i : Nat, i ≤ n ∧ vi = .int .i64 i ∧ Fill w1 wr w.heap.size n i (fun i => md k (L i)) (fun _ => 0)) (fun vi _ => n - (intOf vi).toNat)
  case atStart => exact ⟨0, Nat.zero_le _, rfl, F0.out⟩
  case round =>
    obtain ⟨i, hi, rfl, hF⟩ := hrel
    have HF : Hid _ := hF
    have hc := hF.fam.zero
    have hf := hF.wrt.zero
    have hTr : Tab wr := hT1.wrote hF.wrote (fun o e => by omega)
    have hlr : Fam wr lb lo n L := hF.wrote.fam hl1 (fun t _ e => by omega)
    clear hF
    by_cases hlt2 : i < n
    · have HS : Hid _ := HF.out.step hlt2 (x := md k (L i)) rfl
      have hLi := hL i
      clear HF hmk
      unfold Fam at hlr
      go_wp2_with fail
      refine Calls.mono (of_any k (L i) wr hTr hLi) ?_; rintro e w' ⟨rfl, hw'⟩; subst w'
      go_wp2_with fail
      go_roundw
      case rel => exact ⟨i + 1, by omega, by go_num, HS.out⟩
      case measure => simp [intOf]; omega
    · have hfin : Fam wr w.heap.size 0 n (fun i => md k (L i)) := HF.out.fin (by omega)
      have hbel : Below w.heap.size w wr := hB.out.trans (HF.out.wrote.below (fun b o e => by omega))
      have hsz : w.heap.size < wr.heap.size := by rw [HF.out.wrote.size, hS.out]; omega
      have hwrt : Wrt wr w.heap.size 0 n := HF.out.wrt
      clear hc hf HF hlr hB hS F0 hl1 hT1
      have RA : Hid _ := fun (w3 : World) => readyA (w3 := w3) (r := r) (h := h) hTr hfin hsz hwrt hbel 26
      have RB : Hid _ := fun (w3 : World) => readyB (w3 := w3) (r := r) (h := h) hTr hfin hsz hwrt hbel 26
      clear hbel hwrt hfin
      go_wp2_with fail
      go_region_with (first | (go_at_call 45; refine (powersOf_any k r h hle2 hr _ ?hT).mono ?_; (case hT => first | exact hTr | exact Tab.alloc hTr _); rintro e w3 ⟨rfl, hp3, hb3, hs3⟩) | (go_at_call 44; refine (TC.out _ _ _ ?hR).mono ?_; (case hR => first | exact RA.out w3 hp3 (below_undrew hb3) | exact RB.out w3 hp3 (below_undrew hb3) hs3); rintro e w4 ⟨rfl, hf4, hw4, hb4, hz4⟩))
      all_goals
        have F4 : Hid _ := hf4
        have W4 : Hid _ := hw4
        have B4 : Hid _ := hb4
        clear hf4 hw4 hb4
        go_wp2_with fail
        go_ret
        exact ⟨rfl, F4.out, W4.out, B4.out, hz4⟩
end Go.Proofs.YtcppcfbcgopmoaaDoor
