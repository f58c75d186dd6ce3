/- The walk of 'beaglelaw05.BlockMore': it answers true; nothing that was there is turned. For the statement's proof. -/
import Derived.OpenShut
import Derived.ProofKit
import Derived.Test.YtdffofpoilfhiaaDoorBlkAli
import Derived.Test.YtdffofpoilfhiaaDoorConvPar
import Derived.ArgAppend
namespace Go.Proofs.YtdffofpoilfhiaaDoor.blockMore
open Go.ChangeShapes Go.WideShapes Go.ChangeAt Go.RowKit Res
set_option linter.unusedVariables false

/-- One row, and another one behind it. -/
def beh (n : Nat) (L M : Nat → Int) (t : Nat) : Int := if t < n then L t else M (t - n)
theorem cells_beh (n k : Nat) (L M : Nat → Int) : cellsOf L n ++ cellsOf M k = cellsOf (beh n L M) (n + k) := by
  have e1 : cellsOf L n = cellsOf (beh n L M) n := by
    unfold cellsOf
    refine List.map_congr_left fun t ht => ?_
    have := List.mem_range.1 ht
    unfold beh; rw [if_pos this]
  have e2 : cellsOf M k = cellsOf (fun t => beh n L M (n + t)) k := by
    unfold cellsOf
    refine List.map_congr_left fun t ht => ?_
    have e : beh n L M (n + t) = M t := by unfold beh; rw [if_neg (by omega), show n + t - n = t by omega]
    show Value.int IntKind.u64 (M t) = Value.int IntKind.u64 (beh n L M (n + t))
    rw [e]
  rw [e1, e2, cellsOf_app]
theorem app_of (b o n : Nat) (L : Nat → Int) (s : Option Addr) (k cap : Nat) (M : Nat → Int) (w : World) (hn : 1 ≤ n) (hn2 : n ≤ 2000) (hk : k ≤ 500) (hf : Fam w b o n L) (hl : Sl w s k cap M) :
    ∃ go gc w1, (Builtin.append_ #[22, 22] 22 #[.slice (some ⟨b, o, none⟩) n n, .slice s k cap]).run Tryd.prog w = .ok (.slice go (n + k) gc) w1 ∧ n + k ≤ gc ∧ Lies w1 go (n + k) (beh n L M) ∧ Below w.heap.size w w1 := by
  obtain ⟨i0, hi, hz0, hz1, hz2⟩ := info_parts infoU
  by_cases h0 : k = 0
  · subst h0
    refine ⟨some ⟨b, o, none⟩, n, w, ?_, Nat.le_refl _, fun _ => ⟨b, o, rfl, hf.congr fun t ht => by unfold beh; rw [if_pos ht]⟩, Below.refl _ _⟩
    cases s <;> simp [Builtin.append_, run_underlying Tryd.underlying22, sizeOf, typeInfo, hi, Builtin.lenOf, Builtin.firstCells, storeCells, loadCells, loadCellsFrom]
  · obtain ⟨b2, o2, rfl, hf2⟩ := hl.lies (by omega)
    obtain ⟨v', w', hr, own, hg⟩ := run_append_arg_grows (P := Tryd.prog) w 22 22 40 i0 (.int .u64 0) 1 8 Tryd.underlying22 hi hz0 hz1 hz2 rfl (by decide) ⟨b, o, none⟩ n n (cellsOf L n) (by simp [cellsOf]) (cells_at hf) ⟨b2, o2, none⟩ k cap (cellsOf M k) (by simp [cellsOf]) (cells_at hf2) (by omega) (by unfold maxLen; omega) (by omega)
    rw [cells_beh] at own
    obtain ⟨g, gc, cur, rfl, _, _, hle, _⟩ := own.2.resolve_left (fun h => by omega)
    obtain ⟨g', gc', e, _, _, hfam, _⟩ := own_fam own (by omega)
    cases e
    exact ⟨_, _, _, hr, hle, fun _ => ⟨g, 0, rfl, hfam⟩, (Below.refl _ _).grown hg (Nat.le_refl _) (fun j e => by cases e)⟩
theorem gr_beh (n k : Nat) (L M : Nat → Int) : gr n L ≤ gr (n + k) (beh n L M) := by
  rw [gr_congr (L := L) (M := beh n L M) n (fun t ht => by unfold beh; rw [if_pos ht])]
  induction k with
  | zero => exact Int.le_refl _
  | succ k ih => exact Int.le_trans ih (gr_mono _ _)
theorem more_fact {n m k : Nat} {P T U : Nat → Int} {s : Int} (h1 : 1 ≤ n) (h2 : n ≤ m) (h : bc n (m + k) P (beh m T U) s = 0) : bc n m P T s = 0 ∧ bl n m P T s = m + 1 - n ∧ bl n (m + k) P (beh m T U) s = m + 1 - n + k ∧ (¬ 18446744073709551616 ≤ gr n P * gr m T * (n : Int)) ∧ ∀ t, t < m + 1 - n → cr n P (beh m T U) t = cr n P T t := by
  have hno : ¬ (n = 0 ∨ m < n) := by omega
  have hno' : ¬ (n = 0 ∨ m + k < n) := by omega
  have hz : szb n s = true := by
    cases hz : szb n s with
    | true => rfl
    | false => rw [bc_size hno' hz] at h; cases h
  have hok' : ¬ 18446744073709551616 ≤ gr n P * gr (m + k) (beh m T U) * (n : Int) := fun h' => by rw [bc_big hno' hz h'] at h; cases h
  have hle : gr n P * gr m T * (n : Int) ≤ gr n P * gr (m + k) (beh m T U) * (n : Int) := Int.mul_le_mul_of_nonneg_right (Int.mul_le_mul_of_nonneg_left (gr_beh m k T U) (gr_nonneg _ _)) (by omega)
  have hok : ¬ 18446744073709551616 ≤ gr n P * gr m T * (n : Int) := by omega
  have h0 := bc_ok (P := P) (T := T) hno hz hok
  refine ⟨h0, bl_ok hno h0, by rw [bl_ok hno' h]; omega, hok, fun t ht => ?_⟩
  unfold cr
  refine sm_congr fun j hj => ?_
  have e : beh m T U (t + j) = T (t + j) := by unfold beh; rw [if_pos (by omega)]
  rw [e]

set_option maxHeartbeats 4000000 in
theorem walk (s : Option Addr) (n cap : Nat) (L : Nat → Int) (s2 : Option Addr) (n2 cap2 : Nat) (L2 : Nat → Int) (s3 : Option Addr) (n3 cap3 : Nat) (L3 : Nat → Int) (w : World) (hl : Sl w s n cap L) (hl2 : Sl w s2 n2 cap2 L2) (hl3 : Sl w s3 n3 cap3 L3) (hT : Tab w) :
    Calls Tryd.prog 9 #[.slice s n cap, .slice s2 n2 cap2, .slice s3 n3 cap3] w fun e w' => e = .returned (.bool true) ∧ Below w.heap.size w w' := by
  have al : Hid _ := balive_any
  by_cases hf : n ≤ 300 ∧ n2 ≤ 2000
  · have c0 : Hid _ := bfew_yes s s2 n n2 cap cap2 hf.1 hf.2 w
    have h1 := hf.1
    have h2 := hf.2
    by_cases hb : 500 < n3 ∨ n = 0 ∨ n2 < n
    · have hcs : (500 < (n3 : Int)) ∨ ((n3 : Int) ≤ 500 ∧ n = 0) ∨ ((n3 : Int) ≤ 500 ∧ ¬ (n : Int) = 0 ∧ (n2 : Int) < (n : Int)) := by omega
      have al2 : Hid _ := al.out w hT
      clear hl hl2 hl3 hf hT al hb
      rcases hcs with k1 | ⟨k1, k2⟩ | ⟨k1, k2, k3⟩
      · have d1 : decide (500 < (n3 : Int)) = true := decide_eq_true k1
        go_enter Tryd.func9, Tryd.ntmps9
        go_wp2_with fail
        refine Calls.mono (Hid.out c0) ?_; rintro e w' ⟨rfl, hw'⟩; subst w'
        go_wp2_with fail
        refine Calls.mono (Hid.out al2) ?_; rintro e w3 ⟨rfl, b3⟩
        have B3 : Hid (Below w.heap.size w w3) := b3
        clear b3 al2
        go_wp2_with fail
        go_ret
        exact ⟨rfl, B3.out⟩
      · have d1 : decide (500 < (n3 : Int)) = false := decide_eq_false (by omega)
        subst k2
        go_enter Tryd.func9, Tryd.ntmps9
        go_wp2_with fail
        refine Calls.mono (Hid.out c0) ?_; rintro e w' ⟨rfl, hw'⟩; subst w'
        go_wp2_with fail
        refine Calls.mono (Hid.out al2) ?_; rintro e w3 ⟨rfl, b3⟩
        have B3 : Hid (Below w.heap.size w w3) := b3
        clear b3 al2
        go_wp2_with fail
        go_ret
        exact ⟨rfl, B3.out⟩
      · have d1 : decide (500 < (n3 : Int)) = false := decide_eq_false (by omega)
        have d2 : ((n : Int) == 0) = false := beq_eq_false_iff_ne.2 k2
        have d3 : decide ((n2 : Int) < (n : Int)) = true := decide_eq_true k3
        go_enter Tryd.func9, Tryd.ntmps9
        go_wp2_with fail
        refine Calls.mono (Hid.out c0) ?_; rintro e w' ⟨rfl, hw'⟩; subst w'
        go_wp2_with fail
        refine Calls.mono (Hid.out al2) ?_; rintro e w3 ⟨rfl, b3⟩
        have B3 : Hid (Below w.heap.size w w3) := b3
        clear b3 al2
        go_wp2_with fail
        go_ret
        exact ⟨rfl, B3.out⟩
    · have k1 : n3 ≤ 500 := by omega
      have k2 : 1 ≤ n := by omega
      have k3 : n ≤ n2 := by omega
      have k1' : (n3 : Int) ≤ 500 := by omega
      have k2' : ¬ (n : Int) = 0 := by omega
      have k3' : (n : Int) ≤ (n2 : Int) := by omega
      have d1 : decide (500 < (n3 : Int)) = false := decide_eq_false (by omega)
      have d2 : ((n : Int) == 0) = false := beq_eq_false_iff_ne.2 (by omega)
      have d3 : decide ((n2 : Int) < (n : Int)) = false := decide_eq_false (by omega)
      have c1 : Hid _ := fit_any n n2 w
      obtain ⟨pb, pof, rfl, fp⟩ := hl.lies (by omega)
      obtain ⟨tb, tof, rfl, ft⟩ := hl2.lies (by omega)
      have hle2 := hl2.le
      generalize (fb n n2 13).1 = z at *
      have c2 : Hid _ := bcor_any (some ⟨pb, pof, none⟩) (some ⟨tb, tof, none⟩) n n2 cap cap2 z (by omega) (by omega) hl2.le L L2 hl.lo hl2.lo hl.hi hl2.hi w hT hl.row hl2.row
      have c3 : Hid (∀ v, Below w.heap.size w v → _) := fun v hv => app_of tb tof n2 L2 s3 n3 cap3 L3 v (by omega) h2 k1 (ft.below hv (ft.lt (by omega))) (hl3.below hv)
      have hlo : ∀ t, 0 ≤ beh n2 L2 L3 t := fun t => by unfold beh; split; exact hl2.lo _; exact hl3.lo _
      have hhi : ∀ t, beh n2 L2 L3 t ≤ 18446744073709551615 := fun t => by unfold beh; split; exact hl2.hi _; exact hl3.hi _
      have c4 : Hid _ := fun (v : World) (hv : Tab v) (hb : Below w.heap.size w v) (go : Option Addr) (gc : Nat) (hgc : n2 + n3 ≤ gc) (lg : Lies v go (n2 + n3) (beh n2 L2 L3)) => bcor_room (some ⟨pb, pof, none⟩) go n (n2 + n3) cap gc z (by omega) (by omega) hgc L (beh n2 L2 L3) hl.lo hlo hl.hi hhi v hv (hl.row.below hb (Nat.le_refl _)) lg
      have HM : Hid (bc n (n2 + n3) L (beh n2 L2 L3) z = 0 → _) := fun h => more_fact (U := L3) k2 k3 h
      have c5 : Hid (¬ 18446744073709551616 ≤ gr n L * gr n2 L2 * (n : Int) → ∀ v, Below w.heap.size w v → _) := fun hok v hv => slide_any pb pof tb tof n n2 cap cap2 k2 k3 (by omega) L L2 hl.lo hl2.lo (fun i hi => cr_fits hl2.lo hok i hi) v (fp.below hv (fp.lt k2)) (ft.below hv (ft.lt (by omega)))
      have hlt := tab_lt hT
      have hN : bl n n2 L L2 z ≤ 2001 := by unfold bl; split; omega; split <;> omega
      have hN' : bl n (n2 + n3) L (beh n2 L2 L3) z ≤ 2501 := by unfold bl; split; omega; split <;> omega
      clear hl hl2 hl3 hf hb hlo hhi fp ft
      generalize bl n n2 L L2 z = N at *
      generalize bc n n2 L L2 z = E at *
      generalize bq n n2 L L2 z = K at *
      generalize bl n (n2 + n3) L (beh n2 L2 L3) z = N' at *
      generalize bc n (n2 + n3) L (beh n2 L2 L3) z = C at *
      generalize bq n (n2 + n3) L (beh n2 L2 L3) z = K' at *
      generalize cr n L L2 = F at *
      generalize cr n L (beh n2 L2 L3) = F' at *
      go_enter Tryd.func9, Tryd.ntmps9
      go_wp2_with fail
      refine Calls.mono (Hid.out c0) ?_; rintro e w' ⟨rfl, hw'⟩; subst w'
      go_wp2_with fail
      refine Calls.mono (Hid.out c1) ?_; rintro e w' ⟨rfl, hw'⟩; subst w'
      go_wp2_with fail
      refine Calls.mono (Hid.out c2) ?_; rintro e w1 ⟨xo, xc, rfl, lx, b1⟩
      have T1 : Tab w1 := hT.below b1 hlt
      have B1 : Hid (Below w.heap.size w w1) := b1
      have X1 : Hid (Lies w1 xo N F) := lx
      clear lx b1 c1 c2 hT c0
      obtain ⟨go, gc, w2, hap0, hgc, lg, b2⟩ := c3.out w1 B1.out
      have hap : Hid _ := hap0
      have T2 : Tab w2 := T1.below b2 (tab_lt T1)
      have B2 : Hid (Below w.heap.size w w2) := B1.out.trans (b2.mono B1.out.size)
      have X2 : Hid (Lies w2 xo N F) := Lies.below X1.out b2 (Nat.le_refl _)
      have c4' : Hid _ := c4.out w2 T2 B2.out go gc hgc lg
      clear hap0 lg b2 c3 c4 B1 X1 T1 hgc
      go_wp2_with (at_builtin; refine wpList_append_eq rfl (.tmp 56) (.tmp 57) 22 rfl _ _ _ _ rfl rfl hap.out ?_)
      refine Calls.mono (Hid.out c4') ?_; rintro e w3 ⟨yo, yc, rfl, ly, b3, hyc⟩
      have T3 : Tab w3 := T2.below b3 (tab_lt T2)
      have B3 : Hid (Below w.heap.size w w3) := B2.out.trans (b3.mono B2.out.size)
      have X3 : Hid (Lies w3 xo N F) := Lies.below X2.out b3 (Nat.le_refl _)
      have Y3 : Hid (Lies w3 yo N' F') := ly
      have al3 : Hid _ := al.out w3 T3
      clear b3 ly c4' hap B2 X2 T2 al
      by_cases hC : C = 0
      · subst hC
        obtain ⟨hE0, hNe, hNe', hok, hFF⟩ := HM.out rfl
        subst hE0
        have hNN : (N : Int) + (n3 : Int) = (N' : Int) := by omega
        have hNN' : N ≤ N' := by omega
        have hpos : 1 ≤ N := by omega
        have hposI : 1 ≤ (N : Int) := by omega
        have hycI : (N : Int) ≤ (yc : Int) := by omega
        have hself : ((N' : Int) == (N' : Int)) = true := beq_iff_eq.2 rfl
        obtain ⟨yb, yof, rfl, fy⟩ := Y3.out (by omega)
        have FY : Hid (Fam w3 yb yof N F) := (fy.head N hNN').congr (fun t ht => hFF t (by omega))
        have hyl : yb < w3.heap.size := fy.lt (by omega)
        have c5' : Hid _ := c5.out hok
        have HN : Hid (n2 + 1 - n = N) := hNe.symm
        clear HM c5 hok hFF fy Y3 hNe hNe'
        go_wp2_with fail
        refine Calls.mono (Hid.out al3) ?_; rintro e w4 ⟨rfl, b4⟩
        have B4 : Hid (Below w.heap.size w w4) := B3.out.trans (b4.mono B3.out.size)
        have X4 : Hid (Lies w4 xo N F) := Lies.below X3.out b4 (Nat.le_refl _)
        have Y4 : Hid (Lies w4 (some ⟨yb, yof, none⟩) N F) := fun _ => ⟨yb, yof, rfl, Fam.below FY.out b4 hyl⟩
        have c6 : Hid _ := fun c => same_lies N (by omega) (some ⟨yb, yof, none⟩) xo c xc F F (fun _ _ => rfl) w4 Y4.out X4.out
        clear b4 al3 B3 X3 FY T3
        go_wp2_with fail
        refine Calls.mono (c6.out _) ?_; rintro e w5 ⟨rfl, q5, hw5⟩
        have B5 : Hid (Below w.heap.size w w5) := by show Below _ _ _; rw [hw5]; exact below_drewN B4.out q5
        have X5 : Hid (Lies w5 xo N F) := by show Lies _ _ _ _; rw [hw5]; exact X4.out
        have c7 : Hid _ := c5'.out w5 B5.out
        clear hw5 c6 B4 X4 Y4 c5'
        go_wp2_with fail
        refine Calls.mono (Hid.out c7) ?_; rintro e w6 ⟨v, rfl, own, b6⟩
        rw [HN.out] at own
        obtain ⟨zo, zc, rfl, lz⟩ := own_lies own
        have B6 : Hid (Below w.heap.size w w6) := B5.out.trans (b6.mono B5.out.size)
        have c8 : Hid _ := same_lies N (by omega) xo zo xc zc F F (fun _ _ => rfl) w6 (Lies.below X5.out b6 (Nat.le_refl _)) lz
        clear own b6 lz B5 X5 c7
        go_wp2_with fail
        refine Calls.mono (Hid.out c8) ?_; rintro e w7 ⟨rfl, q7, hw7⟩
        have B7 : Hid (Below w.heap.size w w7) := by show Below _ _ _; rw [hw7]; exact below_drewN B6.out q7
        clear hw7 c8 B6
        go_wp2_with fail
        go_ret
        exact ⟨rfl, B7.out⟩
      · clear HM c5 Y3 X3
        go_wp2_with fail
        refine Calls.mono (Hid.out al3) ?_; rintro e w4 ⟨rfl, b4⟩
        have B4 : Hid (Below w.heap.size w w4) := B3.out.trans (b4.mono B3.out.size)
        clear b4 al3
        go_wp2_with fail
        go_ret
        exact ⟨rfl, B4.out⟩
  · have c0 : Hid _ := bfew_no s s2 n n2 cap cap2 hf w
    have al2 : Hid _ := al.out w hT
    clear hl hl2 hl3 hf hT al
    go_enter Tryd.func9, Tryd.ntmps9
    go_wp2_with fail
    refine Calls.mono (Hid.out c0) ?_; rintro e w' ⟨rfl, hw'⟩; subst w'
    go_wp2_with fail
    refine Calls.mono (Hid.out al2) ?_; rintro e w3 ⟨rfl, b3⟩
    have B3 : Hid (Below w.heap.size w w3) := b3
    clear b3 al2
    go_wp2_with fail
    go_ret
    exact ⟨rfl, B3.out⟩

end Go.Proofs.YtdffofpoilfhiaaDoor.blockMore
