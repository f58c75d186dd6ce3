/- Contracts of the document's Part, in and Rare. Contracts of the document's in and Rare. Contracts of the document's Counts and Find. -/
import Derived.Test.YtlogdjhnhnfbkaaDoorSpA
import Derived.Test.YtlogdjhnhnfbkaaDoorLfA
import Derived.Test.YtlogdjhnhnfbkaaDoorClsA
import Derived.Test.YtlogdjhnhnfbkaaDoorNvA
import Derived.Test.YtlogdjhnhnfbkaaDoorNvPar
import Derived.Test.YtlogdjhnhnfbkaaDoorWdSize

namespace Go.Proofs.YtlogdjhnhnfbkaaDoor
open Go.RowKit Go.Maps Res
namespace Cls

theorem dec_geq (a b : Int) : decide (b ≤ a) = decide (a ≥ b) := rfl

/-- The kinds of either sort. -/
def sks (P : Nat → Nat → Bool) (n : Nat) (least : Int) (b : Bool) : List (Nat → Bool) := (kd P n).filter fun c => frq P n least c == b

theorem sks_true (P : Nat → Nat → Bool) (n : Nat) (least : Int) : sks P n least true = fks P n least := by
  unfold sks fks
  congr 1
  funext c
  cases frq P n least c <;> rfl

theorem sks_false (P : Nat → Nat → Bool) (n : Nat) (least : Int) : sks P n least false = rks P n least := by
  unfold sks rks
  congr 1
  funext c
  cases frq P n least c <;> rfl

theorem sks_len (P : Nat → Nat → Bool) (n : Nat) (least : Int) (b : Bool) : (sks P n least b).length ≤ n := Nat.le_trans (List.length_filter_le _ _) (kd_len P n)

set_option maxRecDepth 100000 in
set_option maxHeartbeats 4000000 in
theorem refPart12_any (P : Nat → Nat → Bool) (n cap : Nat) (ao : Option Addr) (K least : Int) (bb : Bool) (w : World) (hl : Lf w ao n P) :
    Calls Tryd.prog 12 #[.agg #[.slice ao n cap, .int .i64 K], .int .i64 least, .bool bb] w fun e w' =>
      (∃ fo fd, e = .returned (.slice fo (sks P n least bb).length fd) ∧ Lf w' fo (sks P n least bb).length (at' (sks P n least bb))) ∧ Below w.heap.size w w' := by
  obtain ⟨w1, b1⟩ := lbox w (.slice ao n cap) (.int .i64 K)
  have E1 : Hid _ := b1.eq
  have B1 : Hid (Below w.heap.size w w1) := b1.bel
  have s1 : w.heap.size < w1.heap.size := by have := b1.size; omega
  have HC : Hid (w1.cell? ⟨w.heap.size, 0, none⟩ = some (.slice ao n cap) ∧ w1.cell? ⟨w.heap.size, 1, none⟩ = some (.int .i64 K)) := ⟨b1.c0, b1.c1⟩
  have c0 := HC.out.1
  have c1 := HC.out.2
  have HL : Hid (Lf w1 ao n P) := hl.grow b1.bel
  have ck : Hid _ := refKinds_any P n cap ao K w1 HL.out
  have CW : Hid _ := fun v (c : Nat → Bool) hv => refWhere_any P c n cap ao K v (HL.out.grow hv)
  have HFR : Hid (∀ c, decide (least ≤ ((wh P c n).length : Int)) = frq P n least c) := fun c => rfl
  have HWL : Hid (∀ c, (wh P c n).length ≤ n) := fun c => wh_len P c n
  have hn := hl.small
  have hq := kd_len P n
  have HF : Hid (sks P n least bb = pt (fun c => frq P n least c == bb) (kd P n) (kd P n).length) := (pt_end _ _).symm
  have HSL := sks_len P n least bb
  obtain ⟨i0, hi, hz0, hz1, hz2⟩ := infoC
  clear b1 hl
  go_enter Tryd.func12, Tryd.ntmps12
  go_wp2_with (first | rw [← E1.out])
  refine Calls.mono (Hid.out ck) ?_; rintro e w3 ⟨⟨ko, kc, rfl, l3⟩, b3⟩
  have B13 : Hid (Below w1.heap.size w1 w3) := b3
  have HL3 : Hid (Lf w3 ko (kd P n).length (at' (kd P n))) := l3
  clear b3 ck c0 c1 E1 l3
  generalize kd P n = L at *
  obtain ⟨q, hqL⟩ : ∃ q, L.length = q := ⟨_, rfl⟩
  rw [hqL] at hq HL3 HF
  go_wp2_with fail
  go_loopw [8, 9] (fun vf vk wr => Below w3.heap.size w3 wr ∧ ∃ k : Nat, k ≤ q ∧ vk = .int .i64 k ∧ OwnC wr w3.heap.size vf (pt (fun c => frq P n least c == bb) L k)) (fun _ vk _ => q - (intOf vk).toNat)
  case atStart => exact ⟨Below.refl _ _, 0, Nat.zero_le _, rfl, ownC_nil _ _⟩
  case round =>
    obtain ⟨hbel, k, hk, rfl, hown⟩ := hrel
    have HB : Hid (Below w3.heap.size w3 wr) := hbel
    have HO : Hid (OwnC wr w3.heap.size u8 (pt (fun c => frq P n least c == bb) L k)) := hown
    have B1r : Hid (Below w1.heap.size w1 wr) := B13.out.trans (hbel.mono B13.out.size)
    by_cases hkq : k < q
    · have HLr : Hid (Lf wr ko q (at' L)) := HL3.out.grow hbel
      obtain ⟨b, o, rfl, hb, hC⟩ := HLr.out.lies (by omega)
      obtain ⟨c0, c1, c2, c3⟩ := hC.four hkq
      obtain ⟨d0, d1⟩ := two_below HC.out B1r.out s1
      have hkI : (k : Int) < (q : Int) := by omega
      have hkL : k < L.length := by omega
      have hy : Hid _ := fun h => pt_yes (q := fun c => frq P n least c == bb) hkL h
      have hno : Hid _ := fun h => pt_no (q := fun c => frq P n least c == bb) hkL h
      have hl1 := pt_len (fun c => frq P n least c == bb) L k
      have cw : Hid _ := fun v => CW.out v (at' L k)
      have hfr := HFR.out (at' L k)
      have hwl := HWL.out (at' L k)
      clear hown hbel hC
      generalize at' L k = x at *
      have cw2 : Hid (∀ v, Below w1.heap.size w1 v → Calls Tryd.prog 27 #[.agg #[.slice ao n cap, .int .i64 K], .agg #[.int .u64 ((wd (x) 0 : Nat) : Int), .int .u64 ((wd (x) 1 : Nat) : Int), .int .u64 ((wd (x) 2 : Nat) : Int), .int .u64 ((wd (x) 3 : Nat) : Int)]] v fun e w' => (∃ bo d, e = .returned (.slice bo (wh P x n).length d)) ∧ Below v.heap.size v w') := fun v hv => (cw.out v hv).mono (by rintro e w' ⟨⟨bo, d, rfl, _⟩, hb⟩; exact ⟨⟨bo, d, rfl⟩, hb⟩)
      clear cw
      generalize (wh P x n).length = m at *
      go_wp2_with fail
      go_region_held3 (fun w' => w'.cell? ⟨w.heap.size, 0, none⟩ = some (.slice ao n cap) ∧ w'.cell? ⟨w.heap.size, 1, none⟩ = some (.int .i64 K) ∧ w'.cell? ⟨b, o + k * 4, none⟩ = some (.int .u64 ((wd x 0 : Nat) : Int)) ∧ w'.cell? ⟨b, o + k * 4 + 1, none⟩ = some (.int .u64 ((wd x 1 : Nat) : Int)) ∧ w'.cell? ⟨b, o + k * 4 + 2, none⟩ = some (.int .u64 ((wd x 2 : Nat) : Int)) ∧ w'.cell? ⟨b, o + k * 4 + 3, none⟩ = some (.int .u64 ((wd x 3 : Nat) : Int))) (go_keep)
        (first | (go_at_call 27; (with_reducible refine Calls.mono (cw2.out wr.drew B1r.out.drew) ?_); rintro e w4 ⟨⟨bo, d, rfl⟩, b4⟩; have BX : Hid (Below wr.heap.size wr w4) := undrew b4; obtain ⟨x0, x1⟩ := two_below HC.out (B1r.out.trans (BX.out.mono B1r.out.size)) s1; have y0 := (BX.out.cell (p := ⟨b, o + k * 4, none⟩) hb).trans c0; have y1 := (BX.out.cell (p := ⟨b, o + k * 4 + 1, none⟩) hb).trans c1; have y2 := (BX.out.cell (p := ⟨b, o + k * 4 + 2, none⟩) hb).trans c2; have y3 := (BX.out.cell (p := ⟨b, o + k * 4 + 3, none⟩) hb).trans c3; clear b4))
      have B4 : Hid (Below w3.heap.size w3 w4) := HB.out.trans (BX.out.mono HB.out.size)
      have O4 : Hid (OwnC w4 w3.heap.size u8 (pt (fun c => frq P n least c == bb) L k)) := owns_below HO.out BX.out (Nat.le_refl _)
      have HDX : Hid (decide (least ≤ (m : Int)) = frq P n least x) := hfr
      clear x0 x1 HO hfr cw2
      cases hx : (frq P n least x == bb) with
      | true =>
        have HY : Hid _ := hy.out hx
        have HB2 : (decide (least ≤ (m : Int)) == bb) = true := by rw [HDX.out]; exact hx
        clear hx hy hno
        go_wp2_with (first | (at_builtin; refine wpList_append_own _ rfl _ _ 22 rfl w3.heap.size 51 i0 (.agg #[.int .u64 0, .int .u64 0, .int .u64 0, .int .u64 0]) 4 32 Tryd.underlying22 hi hz0 hz1 hz2 rfl (by decide) _ _ _ rfl (World.ownsRow.alloc O4.out _) ⟨w4.heap.size, 0, none⟩ 1 1 (cls [x]) rfl rfl ?c1 ?c2 ?c3 ?c4 ?c5 ?_))
        case c1 => exact new4 _ _
        case c2 => exact plain4 _
        case c3 => unfold maxLen; omega
        case c4 => omega
        case c5 => have := B4.out.size; rw [World.size_alloc]; omega
        · intro v' w7 hown' hgrow _
          have O7 : Hid (OwnC w7 w3.heap.size v' (pt (fun c => frq P n least c == bb) L (k + 1))) := by
            show OwnC _ _ _ _
            unfold OwnC
            rw [HY.out, cls_append, List.length_append]
            exact hown'
          have B7 : Hid (Below w3.heap.size w3 w7) := grow_below B4.out.size B4.out O4.out hgrow
          clear hown' hgrow
          go_wp2_with fail
          go_roundw
          case rel => exact ⟨B7.out, k + 1, by omega, by go_num, O7.out⟩
          case measure => simp [intOf]; omega
      | false =>
        have HN : Hid _ := hno.out hx
        have HB2 : (decide (least ≤ (m : Int)) == bb) = false := by rw [HDX.out]; exact hx
        clear hx hy hno
        go_wp2_with fail
        go_roundw
        case rel => exact ⟨B4.out, k + 1, by omega, by go_num, by rw [HN.out]; exact O4.out⟩
        case measure => simp [intOf]; omega
    · obtain rfl : k = q := by omega
      rw [← HF.out] at hown
      obtain ⟨fo, fd, rfl, lf⟩ := ownC_lf hown (by omega)
      have HLF : Hid _ := lf
      have BR : Hid (Below w.heap.size w wr) := B1.out.trans (B1r.out.mono B1.out.size)
      clear hown lf hbel
      go_wp2_with fail
      go_ret
      exact ⟨⟨fo, fd, rfl, HLF.out⟩, BR.out⟩

end Cls

end Go.Proofs.YtlogdjhnhnfbkaaDoor

namespace Go.Proofs.YtlogdjhnhnfbkaaDoor
open Go.RowKit Go.Maps Res
namespace Cls

/-- An operation whose guard is false is taken first. -/
theorem skipH {P : Program} {os : List Oper} {Q : Exit → Act → World → Prop} {md : Region.Mode} {S : World → Prop} {i : Nat} {oi : Oper} {fuel : Nat} {listed : Array Bool} {a : Act} {w : World} (hi : os[i]? = some oi)
    (hs : Region.noSelect os.toArray = true) (hf : Region.free md os.toArray listed i = true) (hr : (Region.ready md os.toArray listed).contains i = true)
    (hQ : ∀ c a w, Q (.panic c) (a.put oi.dst undef) w → Q (.panic c) a w) (hw : Region.wanted oi (yielded os.toArray a.tmps) = false) (hS : S w)
    (h : wpAnyH P md os.toArray Q S fuel (listed.setIfInBounds i true) (a.put oi.dst undef) w) : wpAnyH P md os.toArray Q S (fuel + 1) listed a w :=
  wpAnyH_take (by simpa using hi) hs hf hr hQ (Or.inr ⟨hw, rfl⟩) hS h

theorem sm_bool (f g : Nat → Bool) : sm f g = sm g f := sm_comm f g

set_option maxHeartbeats 1000000 in
theorem in12_any (L : List (Nat → Bool)) (kc : Nat) (ko : Option Addr) (x : Nat → Bool) (w : World) (hk : Lf w ko L.length (at' L)) :
    Calls Tryd.prog 31 #[.slice ko L.length kc, .agg #[.int .u64 ((wd (x) 0 : Nat) : Int), .int .u64 ((wd (x) 1 : Nat) : Int), .int .u64 ((wd (x) 2 : Nat) : Int), .int .u64 ((wd (x) 3 : Nat) : Int)]] w fun e w' => e = .returned (.bool (amg L x)) ∧ Below w.heap.size w w' := by
  obtain ⟨w1, b1⟩ := box w x
  have E1 : Hid _ := b1.eq
  have B1 : Hid (Below w.heap.size w w1) := b1.bel
  have F1 : Hid (Fam w1 w.heap.size 0 4 (wi x)) := b1.fam
  have s1 : w.heap.size < w1.heap.size := by have := b1.size; omega
  have HL : Hid (Lf w1 ko L.length (at' L)) := hk.grow b1.bel
  have HY : Hid (∀ t, t < L.length → sm (at' L t) x = true → amg L x = true) := fun t ht h => by rw [← amg_at]; exact any_range ht (by rw [sm_comm]; exact h)
  have HN : Hid ((∀ t, t < L.length → sm (at' L t) x = false) → amg L x = false) := fun h => by rw [← amg_at]; exact any_range_no (fun t ht => by rw [sm_comm]; exact h t ht)
  have hn := hk.small
  obtain ⟨e0, e1, e2, e3⟩ := c4 b1.fam
  clear b1 hk
  generalize amg L x = r at *
  obtain ⟨n, hne⟩ : ∃ n, L.length = n := ⟨_, rfl⟩
  rw [hne] at HL HY HN hn ⊢
  clear hne
  go_enter Tryd.func31, Tryd.ntmps31
  go_wp2_with (first | rw [← E1.out])
  clear E1 e0 e1 e2 e3
  go_loopw [5] (fun vk wr => ∃ q, wr = w1.drewN q ∧ ∃ k : Nat, k ≤ n ∧ vk = .int .i64 k ∧ ∀ t, t < k → sm (at' L t) x = false) (fun vk _ => n - (intOf vk).toNat)
  case atStart => exact ⟨0, rfl, 0, Nat.zero_le _, rfl, fun _ h => absurd h (by omega)⟩
  case round =>
    obtain ⟨q, hq, k, hk, rfl, hall⟩ := hrel
    have HA : Hid _ := hall
    have HQ : Hid _ := hq
    have BR : Hid (Below w.heap.size w wr) := by show Below _ _ _; rw [hq]; exact ⟨B1.out.os, B1.out.tape, B1.out.output, B1.out.size, B1.out.block⟩
    have Fr' : Fam wr w.heap.size 0 4 (wi x) := by rw [hq]; exact F1.out
    have Lr : Lf wr ko n (at' L) := by rw [hq]; exact HL.out.drewN q
    obtain ⟨e0, e1, e2, e3⟩ := c4 Fr'
    clear hall hq Fr'
    by_cases hkn : k < n
    · obtain ⟨b, o, rfl, hb, hC⟩ := Lr.lies (by omega)
      obtain ⟨c0, c1, c2, c3⟩ := hC.four hkn
      have hkI : (k : Int) < (n : Int) := by omega
      have hk0 : (0 : Int) ≤ (k : Int) := by omega
      clear hC Lr
      cases hs : sm (at' L k) x with
      | true =>
        have HR : Hid _ := HY.out k hkn hs
        clear HY HN
        go_wp2_with fail
        go_quiet (fail)
        go_wp2_with fail
        go_ret
        exact ⟨by rw [HR.out]; rfl, ⟨BR.out.os, BR.out.tape, BR.out.output, BR.out.size, BR.out.block⟩⟩
      | false =>
        have HA2 : Hid (∀ t, t < k + 1 → sm (at' L t) x = false) := fun t ht => by
          by_cases e : t = k
          · subst e; exact hs
          · exact HA.out t (by omega)
        go_wp2_with fail
        go_quiet (fail)
        go_wp2_with fail
        go_roundw
        case rel => exact ⟨q + nq, by rw [HQ.out]; simp [World.drewN, Nat.add_assoc], k + 1, by omega, by go_num, HA2.out⟩
        case measure => simp [intOf]; omega
    · obtain rfl : k = n := by omega
      have HR : Hid _ := HN.out HA.out
      clear HY HN Lr
      go_wp2_with fail
      go_ret
      exact ⟨by rw [HR.out]; rfl, BR.out⟩

/-- The counts of the first k places. -/
def rtk (P : Nat → Nat → Bool) (n : Nat) (s : ByteArray) (L : List (Nat → Bool)) (k : Nat) : List Nat := (List.range k).map fun i => rre P s i L n

theorem rtk_len (P : Nat → Nat → Bool) (n : Nat) (s : ByteArray) (L : List (Nat → Bool)) (k : Nat) : (rtk P n s L k).length = k := by simp [rtk]

theorem rtk_succ (P : Nat → Nat → Bool) (n : Nat) (s : ByteArray) (L : List (Nat → Bool)) (k : Nat) : rtk P n s L (k + 1) = rtk P n s L k ++ [rre P s k L n] := by
  unfold rtk
  rw [List.range_succ, List.map_append]
  rfl

theorem rtk_at (P : Nat → Nat → Bool) (n : Nat) (s : ByteArray) (L : List (Nat → Bool)) (k t : Nat) (h : t < (rtk P n s L k).length) : (rtk P n s L k)[t] = rre P s t L n := by simp [rtk]

set_option maxRecDepth 100000 in
set_option maxHeartbeats 4000000 in
theorem refRare12_any (P : Nat → Nat → Bool) (n cap : Nat) (ao : Option Addr) (K : Int) (s : ByteArray) (L : List (Nat → Bool)) (kc : Nat) (ko : Option Addr) (hs : s.size ≤ 1000000) (w : World) (hl : Lf w ao n P) (hk : Lf w ko L.length (at' L)) :
    Calls Tryd.prog 16 #[.agg #[.slice ao n cap, .int .i64 K], .string s, .slice ko L.length kc] w (Told w (rtk P n s L (stn P n K s.size))) := by
  obtain ⟨w1, b1⟩ := lbox w (.slice ao n cap) (.int .i64 K)
  have E1 : Hid _ := b1.eq
  have B1 : Hid (Below w.heap.size w w1) := b1.bel
  have s1 : w.heap.size < w1.heap.size := by have := b1.size; omega
  have HC : Hid (w1.cell? ⟨w.heap.size, 0, none⟩ = some (.slice ao n cap) ∧ w1.cell? ⟨w.heap.size, 1, none⟩ = some (.int .i64 K)) := ⟨b1.c0, b1.c1⟩
  have c0 := HC.out.1
  have c1 := HC.out.2
  have HL : Hid (Lf w1 ao n P) := hl.grow b1.bel
  have HK : Hid (Lf w1 ko L.length (at' L)) := hk.grow b1.bel
  have cr : Hid _ := refRight_any P n cap ao K w1 HL.out
  clear b1 hl hk
  cases hr : rgt P n K with
  | false =>
    rw [hr] at cr
    rw [stn_no (by rw [hr]; simp)]
    clear hr
    go_enter Tryd.func16, Tryd.ntmps16
    go_wp2_with (first | rw [← E1.out])
    refine Calls.mono (Hid.out cr) ?_; rintro e w2 ⟨rfl, b2⟩
    have B2 : Hid (Below w.heap.size w w2) := B1.out.trans (b2.mono B1.out.size)
    clear b2 cr c0 c1 E1
    go_wp2_with fail
    go_ret
    exact ⟨⟨none, 0, rfl, fun h => absurd h (by simp [rtk]), fun h => absurd h (by simp [rtk]), by simp [rtk]⟩, B2.out⟩
  | true =>
    rw [hr] at cr
    obtain ⟨_, h64, _, _⟩ := rgt_len hr
    have hlt : ∀ i, i < stn P n K s.size ↔ i + n ≤ s.size := fun i => by rw [stn_lt, hr]; simp
    have hNs := stn_le P n s.size K
    obtain ⟨N, hN⟩ : ∃ N, stn P n K s.size = N := ⟨_, rfl⟩
    rw [hN] at hlt hNs ⊢
    obtain ⟨i0, hi, hz0, hz1, hz2⟩ := infoI
    clear hr hN
    go_enter Tryd.func16, Tryd.ntmps16
    go_wp2_with (first | rw [← E1.out])
    refine Calls.mono (Hid.out cr) ?_; rintro e w2 ⟨rfl, b2⟩
    have B2 : Hid (Below w.heap.size w w2) := B1.out.trans (b2.mono B1.out.size)
    have HC2 : Hid (w2.cell? ⟨w.heap.size, 0, none⟩ = some (.slice ao n cap) ∧ w2.cell? ⟨w.heap.size, 1, none⟩ = some (.int .i64 K)) := two_below HC.out b2 s1
    have HL2 : Hid (Lf w2 ao n P) := HL.out.grow b2
    have HK2 : Hid (Lf w2 ko L.length (at' L)) := HK.out.grow b2
    have s2 : w.heap.size < w2.heap.size := Nat.lt_of_lt_of_le s1 b2.size
    clear b2 cr c0 c1 E1 HL HK HC
    go_wp2_with fail
    go_loopw [7, 8] (fun vo vi wr => Below w2.heap.size w2 wr ∧ ∃ i : Nat, i ≤ N ∧ vi = .int .i64 i ∧ OwnI wr w2.heap.size vo (rtk P n s L i)) (fun _ vi _ => N - (intOf vi).toNat)
    case atStart => exact ⟨Below.refl _ _, 0, Nat.zero_le _, rfl, World.ownsRow_nil _ _ _ _⟩
    case round =>
      obtain ⟨hbel, i, hiN, rfl, hown⟩ := hrel
      have HB : Hid (Below w2.heap.size w2 wr) := hbel
      have HO : Hid (OwnI wr w2.heap.size u7 (rtk P n s L i)) := hown
      have hd := two_below HC2.out hbel s2
      have HCr : Hid (wr.cell? ⟨w.heap.size, 0, none⟩ = some (.slice ao n cap) ∧ wr.cell? ⟨w.heap.size, 1, none⟩ = some (.int .i64 K)) := hd
      have d0 := HCr.out.1
      have hin := hlt i
      have hwi : IntKind.i64.wrap ((i : Int) + (n : Int)) = (i : Int) + (n : Int) := by rw [IntKind.wrap_i64]; omega
      clear hbel hown hd
      by_cases hlN : i < N
      · have hil : (i : Int) + (n : Int) ≤ (s.size : Int) := by have := hin.1 hlN; omega
        have hils : i + n ≤ s.size := hin.1 hlN
        have HZ : Hid (rre P s i L 0 = 0) := rre_zero P s i L
        clear hin
        go_wp2_with fail
        clear d0
        rename World => wo
        go_loopw [9, 10] (fun vn vj wr => Below wo.heap.size wo wr ∧ ∃ j : Nat, j ≤ n ∧ vj = .int .i64 j ∧ vn = .int .i64 ((rre P s i L j : Nat) : Int)) (fun _ vj _ => n - (intOf vj).toNat)
        case atStart => exact ⟨Below.refl _ _, 0, Nat.zero_le _, rfl, by rw [HZ.out]; rfl⟩
        case round =>
          rename World => wq
          obtain ⟨hbq, j, hj, rfl, rfl⟩ := hrel
          have HBq : Hid (Below wo.heap.size wo wq) := hbq
          have B2q : Hid (Below w2.heap.size w2 wq) := HB.out.trans (hbq.mono HB.out.size)
          have hdq := two_below HC2.out B2q.out s2
          have HCq : Hid (wq.cell? ⟨w.heap.size, 0, none⟩ = some (.slice ao n cap) ∧ wq.cell? ⟨w.heap.size, 1, none⟩ = some (.int .i64 K)) := hdq
          have d0 := HCq.out.1
          have sq : w.heap.size < wq.heap.size := Nat.lt_of_lt_of_le s2 B2q.out.size
          have HLq : Hid (Lf wq ao n P) := HL2.out.grow B2q.out
          have ci : Hid _ := fun v hv => in12_any L kc ko (P j) v (HK2.out.grow (B2q.out.trans ((show Below wq.heap.size wq v from hv).mono B2q.out.size)))
          clear hbq hdq
          by_cases hjn : j < n
          · obtain ⟨b, o, rfl, hb, hC⟩ := HLq.out.lies (by omega)
            have HCl : Hid (Cl wq b o n P) := hC
            obtain ⟨c0, c1, c2, c3⟩ := hC.four hjn
            have hjI : (j : Int) < (n : Int) := by omega
            have hj0 : (0 : Int) ≤ (j : Int) := by omega
            obtain ⟨p, hp⟩ : ∃ p, i + j = p := ⟨_, rfl⟩
            have hps : p < s.size := by omega
            have hbt := byt_lt s p
            have hpI : (i : Int) + (j : Int) = (p : Int) := by omega
            have hwq : IntKind.i64.wrap (p : Int) = (p : Int) := by rw [IntKind.wrap_i64]; omega
            have hwr : IntKind.i64.wrap ((i : Int) + (j : Int)) = (p : Int) := by rw [hpI]; exact hwq
            have hp1 : (p : Int) < (s.size : Int) := by omega
            have hidx := idx_str s p hps
            have hsu := rre_succ P s i L j
            rw [hp] at hsu
            have e1 : (L.any fun g => sm (P j) g) = amg L (P j) := rfl
            rw [e1] at hsu
            have hle := rre_le P s i L j
            have hwn : IntKind.i64.wrap ((rre P s i L j : Int) + 1) = (rre P s i L j : Int) + 1 := by rw [IntKind.wrap_i64]; omega
            have ch : Hid _ := fun v => refHas_any (P j) (byt s p) hbt v
            clear hC e1
            cases ha : amg L (P j) with
            | false =>
              rw [ha, Bool.false_and] at hsu
              rw [ha] at ci
              have HS : Hid (rre P s i L (j + 1) = rre P s i L j + 0) := hsu
              clear hsu ha hidx
              go_wp2_with fail
              refine region_plain (S := fun w' => w'.cell? ⟨w.heap.size, 0, none⟩ = some (.slice (some ⟨b, o, none⟩) n cap) ∧ w'.cell? ⟨b, o + j * 4, none⟩ = some (.int .u64 ((wd (P j) 0 : Nat) : Int)) ∧ w'.cell? ⟨b, o + j * 4 + 1, none⟩ = some (.int .u64 ((wd (P j) 1 : Nat) : Int)) ∧ w'.cell? ⟨b, o + j * 4 + 2, none⟩ = some (.int .u64 ((wd (P j) 2 : Nat) : Int)) ∧ w'.cell? ⟨b, o + j * 4 + 3, none⟩ = some (.int .u64 ((wd (P j) 3 : Nat) : Int))) (by kernel_rfl) ?_
              have hH : wq.drew.cell? ⟨w.heap.size, 0, none⟩ = some (.slice (some ⟨b, o, none⟩) n cap) ∧ wq.drew.cell? ⟨b, o + j * 4, none⟩ = some (.int .u64 ((wd (P j) 0 : Nat) : Int)) ∧ wq.drew.cell? ⟨b, o + j * 4 + 1, none⟩ = some (.int .u64 ((wd (P j) 1 : Nat) : Int)) ∧ wq.drew.cell? ⟨b, o + j * 4 + 2, none⟩ = some (.int .u64 ((wd (P j) 2 : Nat) : Int)) ∧ wq.drew.cell? ⟨b, o + j * 4 + 3, none⟩ = some (.int .u64 ((wd (P j) 3 : Nat) : Int)) := ⟨d0, c0, c1, c2, c3⟩
              refine takeH (i := 0) (v := .slice ko L.length kc) rfl (by kernel_rfl) (by kernel_rfl) (by kernel_rfl) (fun _ _ _ h => h) rfl ?_ hH ?_
              · rintro v0 ⟨y0, y1, y2, y3, y4⟩
                go_simp
              try simp only [Act.put, List.setIfInBounds_toArray, List.set_cons_zero, List.set_cons_succ]
              refine takeH (i := 1) (v := .pointer (some ⟨w.heap.size, 0, none⟩)) rfl (by kernel_rfl) (by kernel_rfl) (by kernel_rfl) (fun _ _ _ h => h) rfl ?_ hH ?_
              · rintro v0 ⟨y0, y1, y2, y3, y4⟩
                go_simp
              try simp only [Act.put, List.setIfInBounds_toArray, List.set_cons_zero, List.set_cons_succ]
              refine takeH (i := 2) (v := .slice (some ⟨b, o, none⟩) n cap) rfl (by kernel_rfl) (by kernel_rfl) (by kernel_rfl) (fun _ _ _ h => h) rfl ?_ hH ?_
              · rintro v0 ⟨y0, y1, y2, y3, y4⟩
                go_simp
              try simp only [Act.put, List.setIfInBounds_toArray, List.set_cons_zero, List.set_cons_succ]
              refine takeH (i := 3) (v := .int .i64 (j : Int)) rfl (by kernel_rfl) (by kernel_rfl) (by kernel_rfl) (fun _ _ _ h => h) rfl ?_ hH ?_
              · rintro v0 ⟨y0, y1, y2, y3, y4⟩
                go_simp
              try simp only [Act.put, List.setIfInBounds_toArray, List.set_cons_zero, List.set_cons_succ]
              refine takeH (i := 4) (v := .pointer (some ⟨b, o + j * 4, none⟩)) rfl (by kernel_rfl) (by kernel_rfl) (by kernel_rfl) (fun _ _ _ h => h) rfl ?_ hH ?_
              · rintro v0 ⟨y0, y1, y2, y3, y4⟩
                go_simp
              try simp only [Act.put, List.setIfInBounds_toArray, List.set_cons_zero, List.set_cons_succ]
              refine takeH (i := 5) (v := .agg #[.int .u64 ((wd (P j) 0 : Nat) : Int), .int .u64 ((wd (P j) 1 : Nat) : Int), .int .u64 ((wd (P j) 2 : Nat) : Int), .int .u64 ((wd (P j) 3 : Nat) : Int)]) rfl (by kernel_rfl) (by kernel_rfl) (by kernel_rfl) (fun _ _ _ h => h) rfl ?_ hH ?_
              · rintro v0 ⟨y0, y1, y2, y3, y4⟩
                go_simp
              try simp only [Act.put, List.setIfInBounds_toArray, List.set_cons_zero, List.set_cons_succ]
              refine stepH (i := 6) rfl (by kernel_rfl) rfl (fun K1 hK1 => ?_)
              go_simp
              refine Calls.mono (ci.out wq.drew (Below.refl _ _).drew) ?_; rintro e w3 ⟨rfl, b3⟩
              have BX : Hid (Below wq.heap.size wq w3) := undrew b3
              obtain ⟨m0, m1, m2, m3⟩ := (HCl.out.below BX.out hb).four hjn
              have hH : w3.cell? ⟨w.heap.size, 0, none⟩ = some (.slice (some ⟨b, o, none⟩) n cap) ∧ w3.cell? ⟨b, o + j * 4, none⟩ = some (.int .u64 ((wd (P j) 0 : Nat) : Int)) ∧ w3.cell? ⟨b, o + j * 4 + 1, none⟩ = some (.int .u64 ((wd (P j) 1 : Nat) : Int)) ∧ w3.cell? ⟨b, o + j * 4 + 2, none⟩ = some (.int .u64 ((wd (P j) 2 : Nat) : Int)) ∧ w3.cell? ⟨b, o + j * 4 + 3, none⟩ = some (.int .u64 ((wd (P j) 3 : Nat) : Int)) := ⟨(two_below HCq.out BX.out sq).1, m0, m1, m2, m3⟩
              refine hK1.out _ _ hH ?_
              clear hK1 K1 b3 m0 m1 m2 m3
              try simp only [Act.put, List.setIfInBounds_toArray, List.set_cons_zero, List.set_cons_succ]
              refine takeH (i := 7) (v := .bool false) rfl (by kernel_rfl) (by kernel_rfl) (by kernel_rfl) (fun _ _ _ h => h) rfl ?_ hH ?_
              · rintro v0 ⟨y0, y1, y2, y3, y4⟩
                go_simp
              try simp only [Act.put, List.setIfInBounds_toArray, List.set_cons_zero, List.set_cons_succ]
              refine skipH (i := 8) rfl (by kernel_rfl) (by kernel_rfl) (by kernel_rfl) (fun _ _ _ h => h) rfl hH ?_
              try simp only [Act.put, List.setIfInBounds_toArray, List.set_cons_zero, List.set_cons_succ]
              refine skipH (i := 9) rfl (by kernel_rfl) (by kernel_rfl) (by kernel_rfl) (fun _ _ _ h => h) rfl hH ?_
              try simp only [Act.put, List.setIfInBounds_toArray, List.set_cons_zero, List.set_cons_succ]
              refine skipH (i := 10) rfl (by kernel_rfl) (by kernel_rfl) (by kernel_rfl) (fun _ _ _ h => h) rfl hH ?_
              try simp only [Act.put, List.setIfInBounds_toArray, List.set_cons_zero, List.set_cons_succ]
              refine skipH (i := 11) rfl (by kernel_rfl) (by kernel_rfl) (by kernel_rfl) (fun _ _ _ h => h) rfl hH ?_
              try simp only [Act.put, List.setIfInBounds_toArray, List.set_cons_zero, List.set_cons_succ]
              refine skipH (i := 12) rfl (by kernel_rfl) (by kernel_rfl) (by kernel_rfl) (fun _ _ _ h => h) rfl hH ?_
              try simp only [Act.put, List.setIfInBounds_toArray, List.set_cons_zero, List.set_cons_succ]
              refine skipH (i := 13) rfl (by kernel_rfl) (by kernel_rfl) (by kernel_rfl) (fun _ _ _ h => h) rfl hH ?_
              try simp only [Act.put, List.setIfInBounds_toArray, List.set_cons_zero, List.set_cons_succ]
              refine skipH (i := 14) rfl (by kernel_rfl) (by kernel_rfl) (by kernel_rfl) (fun _ _ _ h => h) rfl hH ?_
              try simp only [Act.put, List.setIfInBounds_toArray, List.set_cons_zero, List.set_cons_succ]
              refine skipH (i := 15) rfl (by kernel_rfl) (by kernel_rfl) (by kernel_rfl) (fun _ _ _ h => h) rfl hH ?_
              try simp only [Act.put, List.setIfInBounds_toArray, List.set_cons_zero, List.set_cons_succ]
              refine skipH (i := 16) rfl (by kernel_rfl) (by kernel_rfl) (by kernel_rfl) (fun _ _ _ h => h) rfl hH ?_
              try simp only [Act.put, List.setIfInBounds_toArray, List.set_cons_zero, List.set_cons_succ]
              refine skipH (i := 17) rfl (by kernel_rfl) (by kernel_rfl) (by kernel_rfl) (fun _ _ _ h => h) rfl hH ?_
              try simp only [Act.put, List.setIfInBounds_toArray, List.set_cons_zero, List.set_cons_succ]
              refine skipH (i := 18) rfl (by kernel_rfl) (by kernel_rfl) (by kernel_rfl) (fun _ _ _ h => h) rfl hH ?_
              try simp only [Act.put, List.setIfInBounds_toArray, List.set_cons_zero, List.set_cons_succ]
              refine takeH (i := 19) (v := .bool false) rfl (by kernel_rfl) (by kernel_rfl) (by kernel_rfl) (fun _ _ _ h => h) rfl ?_ hH ?_
              · rintro v0 ⟨y0, y1, y2, y3, y4⟩
                go_simp
              try simp only [Act.put, List.setIfInBounds_toArray, List.set_cons_zero, List.set_cons_succ]
              refine wpAnyH_done (by kernel_rfl) ?_ _
              have BQ : Hid (Below wo.heap.size wo w3) := HBq.out.trans (BX.out.mono HBq.out.size)
              clear hH
              go_wp2_with fail
              go_roundw
              case rel => exact ⟨BQ.out, j + 1, by omega, by go_num, by rw [HS.out, Nat.add_zero]⟩
              case measure => simp [intOf]; omega
            | true =>
              rw [ha, Bool.true_and] at hsu
              rw [ha] at ci
              have HS : Hid (rre P s i L (j + 1) = rre P s i L j + (P j (byt s p)).toNat) := hsu
              clear hsu ha
              go_wp2_with fail
              go_region_held3 (fun w' => w'.cell? ⟨w.heap.size, 0, none⟩ = some (.slice (some ⟨b, o, none⟩) n cap) ∧ w'.cell? ⟨b, o + j * 4, none⟩ = some (.int .u64 ((wd (P j) 0 : Nat) : Int)) ∧ w'.cell? ⟨b, o + j * 4 + 1, none⟩ = some (.int .u64 ((wd (P j) 1 : Nat) : Int)) ∧ w'.cell? ⟨b, o + j * 4 + 2, none⟩ = some (.int .u64 ((wd (P j) 2 : Nat) : Int)) ∧ w'.cell? ⟨b, o + j * 4 + 3, none⟩ = some (.int .u64 ((wd (P j) 3 : Nat) : Int))) (go_keep)
                (first
                  | (go_at_call 31; (with_reducible refine Calls.mono (ci.out wq.drew (Below.refl _ _).drew) ?_); rintro e w3 ⟨rfl, b3⟩; have BX : Hid (Below wq.heap.size wq w3) := undrew b3; have y0 := (two_below HCq.out BX.out sq).1; obtain ⟨m0, m1, m2, m3⟩ := (HCl.out.below BX.out hb).four hjn; clear b3)
                  | (go_at_call 32; (with_reducible refine Calls.mono (ch.out _) ?_); rintro e w4 ⟨rfl, b4⟩; have BY : Hid (Below wq.heap.size wq w4) := BX.out.trans (b4.mono BX.out.size); have z0 := (two_below HCq.out BY.out sq).1; obtain ⟨r0, r1, r2, r3⟩ := (HCl.out.below BY.out hb).four hjn; clear b4))
              have BQ : Hid (Below wo.heap.size wo w4) := HBq.out.trans (BY.out.mono HBq.out.size)
              cases hp : P j (byt s p) with
              | false =>
                rw [hp] at HS
                go_wp2_with fail
                go_roundw
                case rel => exact ⟨BQ.out, j + 1, by omega, by go_num, by rw [HS.out]; rfl⟩
                case measure => simp [intOf]; omega
              | true =>
                rw [hp] at HS
                go_wp2_with fail
                go_roundw
                case rel => exact ⟨BQ.out, j + 1, by omega, by go_num, by rw [HS.out]; go_num⟩
                case measure => simp [intOf]; omega
          · obtain rfl : j = n := by omega
            have W : Hid (Below w2.heap.size w2 wq) := B2q.out
            have O3 : wq.ownsRow w2.heap.size 3 1 u7 (rtk P j s L i).length (pls (rtk P j s L i)) := owns_below HO.out HBq.out (Nat.le_refl _)
            have HSu : Hid _ := rtk_succ P j s L i
            have hll := rtk_len P j s L i
            have hsz : w2.heap.size ≤ wq.heap.size := W.out.size
            clear ci hll
            go_wp2_with (first | (at_builtin; refine wpList_append_own _ rfl _ _ 34 rfl w2.heap.size 3 i0 (.int .i64 0) 1 8 Tryd.underlying34 hi hz0 hz1 hz2 rfl (by decide) _ _ _ rfl (O3.alloc _) ⟨wq.heap.size, 0, none⟩ 1 1 [.int .i64 ((rre P s i L j : Nat) : Int)] rfl rfl ?c1 ?c2 ?c3 ?c4 ?c5 ?_))
            case c1 => exact cell_one_new _ _ _
            case c2 => intro u hu; simp at hu; subst hu; rfl
            case c3 => rw [rtk_len]; unfold maxLen; omega
            case c4 => rw [rtk_len]; omega
            case c5 => simp; omega
            · intro v' w4 hown' hgrow _
              have HR : Hid (Below w2.heap.size w2 w4) := grow_below hsz W.out O3 hgrow
              have HO4 : Hid (OwnI w4 w2.heap.size v' (rtk P j s L (i + 1))) := by show OwnI _ _ _ _; unfold OwnI; rw [HSu.out, List.length_append, pls, List.map_append]; exact hown'
              clear hown' hgrow O3
              go_wp2_with fail
              go_roundw
              case rel => exact ⟨HR.out, i + 1, by omega, by go_num, HO4.out⟩
              case measure => simp [intOf]; omega
      · obtain rfl : i = N := by omega
        have hil : ¬ (i : Int) + (n : Int) ≤ (s.size : Int) := fun h => hlN (hin.2 (by omega))
        have HT : Hid (Told w (rtk P n s L i) (.returned u7) wr) := by
          have h : Told w2 (rtk P n s L i) (.returned u7) wr := told_of HO.out HB.out
          exact h.from B2.out
        obtain ⟨⟨bo, d, e, _⟩, _⟩ := HT.out
        cases e
        clear HO hin
        go_wp2_with fail
        go_ret
        exact HT.out

end Cls

end Go.Proofs.YtlogdjhnhnfbkaaDoor

namespace Go.Proofs.YtlogdjhnhnfbkaaDoor
open Go.RowKit Go.Maps Res
namespace Cls

set_option maxRecDepth 100000 in
set_option maxHeartbeats 4000000 in
theorem refCounts12_form (P : Nat → Nat → Bool) (n cap : Nat) (ao : Option Addr) (K z least : Int) (s : ByteArray) (w : World) (hl : Lf w ao n P) (hno : rgt P n K = false ∨ pln P n = false) :
    Calls Tryd.prog 20 #[.agg #[.slice ao n cap, .int .i64 K], .string s, .int .i64 z, .int .i64 least] w fun e w' => e = .returned (.tuple #[.slice none 0 0, .int .i64 0, .int .i64 170]) ∧ Below w.heap.size w w' := by
  obtain ⟨w1, b1⟩ := lbox w (.slice ao n cap) (.int .i64 K)
  have E1 : Hid _ := b1.eq
  have B1 : Hid (Below w.heap.size w w1) := b1.bel
  have s1 : w.heap.size < w1.heap.size := by have := b1.size; omega
  have HC : Hid (w1.cell? ⟨w.heap.size, 0, none⟩ = some (.slice ao n cap) ∧ w1.cell? ⟨w.heap.size, 1, none⟩ = some (.int .i64 K)) := ⟨b1.c0, b1.c1⟩
  have c0 := HC.out.1
  have c1 := HC.out.2
  have HL : Hid (Lf w1 ao n P) := hl.grow b1.bel
  have cr : Hid _ := refRight_any P n cap ao K w1 HL.out
  clear b1 hl
  cases hr : rgt P n K with
  | false =>
    rw [hr] at cr
    clear hno hr
    go_enter Tryd.func20, Tryd.ntmps20
    go_wp2_with (first | rw [← E1.out])
    refine Calls.mono (Hid.out cr) ?_; rintro e w2 ⟨rfl, b2⟩
    have B2 : Hid (Below w.heap.size w w2) := B1.out.trans (b2.mono B1.out.size)
    clear b2 cr c0 c1 E1
    go_wp2_with fail
    refine bodyPost_ret (results_tmp3 rfl _ _ _) rfl ?_
    exact ⟨rfl, B2.out⟩
  | true =>
    have hp : pln P n = false := hno.resolve_left (by rw [hr]; decide)
    rw [hr] at cr
    have CP : Hid _ := fun v hv => refPlain_any P n cap ao K v (HL.out.grow hv)
    rw [hp] at CP
    clear hno hr hp
    go_enter Tryd.func20, Tryd.ntmps20
    go_wp2_with (first | rw [← E1.out])
    refine Calls.mono (Hid.out cr) ?_; rintro e w2 ⟨rfl, b2⟩
    have B12 : Hid (Below w1.heap.size w1 w2) := b2
    have cp : Hid _ := CP.out w2 b2
    obtain ⟨d0, d1⟩ := two_below HC.out b2 s1
    clear b2 cr c0 c1 E1
    go_wp2_with fail
    refine Calls.mono (Hid.out cp) ?_; rintro e w3 ⟨rfl, b3⟩
    have B3 : Hid (Below w.heap.size w w3) := B1.out.trans ((B12.out.trans (b3.mono B12.out.size)).mono B1.out.size)
    clear b3 cp d0 d1
    go_wp2_with fail
    refine bodyPost_ret (results_tmp3 rfl _ _ _) rfl ?_
    exact ⟨rfl, B3.out⟩

set_option maxRecDepth 100000 in
set_option maxHeartbeats 4000000 in
theorem refCounts12_any (P : Nat → Nat → Bool) (n cap : Nat) (ao : Option Addr) (K z least : Int) (s : ByteArray) (hs : s.size ≤ 1000000) (w : World) (hl : Lf w ao n P) :
    Calls Tryd.prog 20 #[.agg #[.slice ao n cap, .int .i64 K], .string s, .int .i64 z, .int .i64 least] w (Told5 w (spc P n K s z least) (spq P n K s.size z least) (spe P n K s.size z least)) := by
  by_cases hno : rgt P n K = false ∨ pln P n = false
  · refine Calls.mono (refCounts12_form P n cap ao K z least s w hl hno) ?_
    rintro e w' ⟨rfl, hb⟩
    have he : ¬ spe P n K s.size z least = 0 := by rw [spe_form hno]; decide
    rw [spc_no he, spq_no he, spe_form hno]
    exact told5_nil hb
  have hr : rgt P n K = true := by
    cases h : rgt P n K with
    | true => rfl
    | false => exact absurd (.inl h) hno
  have hp : pln P n = true := by
    cases h : pln P n with
    | true => rfl
    | false => exact absurd (.inr h) hno
  clear hno
  obtain ⟨w1, b1⟩ := lbox w (.slice ao n cap) (.int .i64 K)
  have E1 : Hid _ := b1.eq
  have B1 : Hid (Below w.heap.size w w1) := b1.bel
  have s1 : w.heap.size < w1.heap.size := by have := b1.size; omega
  have HC : Hid (w1.cell? ⟨w.heap.size, 0, none⟩ = some (.slice ao n cap) ∧ w1.cell? ⟨w.heap.size, 1, none⟩ = some (.int .i64 K)) := ⟨b1.c0, b1.c1⟩
  have c0 := HC.out.1
  have c1 := HC.out.2
  have HL : Hid (Lf w1 ao n P) := hl.grow b1.bel
  have cr : Hid _ := refRight_any P n cap ao K w1 HL.out
  have CP : Hid _ := fun v hv => refPlain_any P n cap ao K v (HL.out.grow hv)
  have CPa : Hid (∀ v, Below w1.heap.size w1 v → Calls Tryd.prog 12 #[.agg #[.slice ao n cap, .int .i64 K], .int .i64 least, .bool true] v fun e w' => (∃ fo fd, e = .returned (.slice fo (fks P n least).length fd)) ∧ Below v.heap.size v w') := fun v hv => (refPart12_any P n cap ao K least true v (HL.out.grow hv)).mono fun e w' ⟨⟨fo, fd, he, _⟩, hb⟩ => ⟨⟨fo, fd, by rw [he, sks_true]⟩, hb⟩
  rw [hr] at cr
  rw [hp] at CP
  obtain ⟨_, h64, _, _⟩ := rgt_len hr
  have hfl := fks_len P n least
  obtain ⟨q0, q1⟩ := spq_bounds (P := P) (m := s.size) (z := z) (least := least) h64
  obtain ⟨ct0, ct1⟩ := ct_small11 (n := n) (m := s.size) (z := z)
  have cn : Hid _ := fun v => refCount_any n s.size z v
  have cz : Hid _ := fun v => refSize10_any n s.size z v
  have cs : Hid (∀ v, Below w1.heap.size w1 v → Calls Tryd.prog 17 #[.agg #[.slice ao n cap, .int .i64 K], .string s] v (Told v (cts P n K s))) := fun v hv => refCounts_any P n cap ao K s hs v (HL.out.grow hv)
  have hcase : ((fks P n least).length = 0 ∧ spe P n K s.size z least = 0) ∨ ((fks P n least).length ≠ 0 ∧ (decide (n ≤ s.size) && !szb n z) = false ∧ spe P n K s.size z least = 0) ∨ ((fks P n least).length ≠ 0 ∧ (decide (n ≤ s.size) && !szb n z) = true ∧ spe P n K s.size z least = 50) := by
    by_cases hf : (fks P n least).length = 0
    · exact .inl ⟨hf, spe_ok hr hp (.inl hf)⟩
    · refine .inr ?_
      by_cases h1 : n ≤ s.size
      · cases h2 : szb n z with
        | true => exact .inl ⟨hf, by simp, spe_ok hr hp (.inr (.inr h2))⟩
        | false => exact .inr ⟨hf, by simp [h1], spe_size hr hp hf h1 h2⟩
      · exact .inl ⟨hf, by simp [h1], spe_ok hr hp (.inr (.inl (by omega)))⟩
  rcases hcase with ⟨hf, he⟩ | ⟨hf, hz, he⟩ | ⟨hf, hz, he⟩
  · rw [spc_ok he, spq_ok he, he]
    obtain ⟨L, hL⟩ : ∃ L, cts P n K s = L := ⟨_, rfl⟩
    rw [hL] at cs ⊢
    obtain ⟨f, hfe⟩ : ∃ f, (fks P n least).length = f := ⟨_, rfl⟩
    rw [hfe] at CPa hf hfl q0 q1 ⊢
    generalize ct n s.size z = C at *
    obtain ⟨Q, hQ⟩ : ∃ Q, (f : Int) * C = Q := ⟨_, rfl⟩
    rw [hQ] at q0 q1 ⊢
    have hQw : IntKind.i64.wrap ((f : Int) * C) = Q := by rw [hQ, IntKind.wrap_i64]; omega
    obtain rfl : f = 0 := hf
    obtain rfl : Q = 0 := by rw [← hQ]; simp
    have hw0 : IntKind.i64.wrap 0 = 0 := by rw [IntKind.wrap_i64]; omega
    clear hQ hQw
    clear he hr hp hL hfe b1 hl HL
    go_enter Tryd.func20, Tryd.ntmps20
    go_wp2_with (first | rw [← E1.out])
    refine Calls.mono (Hid.out cr) ?_; rintro e w2 ⟨rfl, b2⟩
    have B12 : Hid (Below w1.heap.size w1 w2) := b2
    have cp : Hid _ := CP.out w2 b2
    obtain ⟨d0, d1⟩ := two_below HC.out b2 s1
    clear b2 cr c0 c1 E1 CP
    go_wp2_with fail
    refine Calls.mono (Hid.out cp) ?_; rintro e w3 ⟨rfl, b3⟩
    have B13 : Hid (Below w1.heap.size w1 w3) := B12.out.trans (b3.mono B12.out.size)
    have ca : Hid _ := CPa.out w3 B13.out
    obtain ⟨d0, d1⟩ := two_below HC.out B13.out s1
    clear b3 cp CPa
    go_wp2_with fail
    refine Calls.mono (Hid.out ca) ?_; rintro e w4 ⟨⟨fo, fd, rfl⟩, b4⟩
    have B14 : Hid (Below w1.heap.size w1 w4) := B13.out.trans (b4.mono B13.out.size)
    have HC4 : Hid (w4.cell? ⟨w.heap.size, 0, none⟩ = some (.slice ao n cap) ∧ w4.cell? ⟨w.heap.size, 1, none⟩ = some (.int .i64 K)) := two_below HC.out B14.out s1
    have d0 := HC4.out.1
    have d1 := HC4.out.2
    clear b4 ca
    go_wp2_with fail
    have BX0 : Below w1.heap.size w1 w4.drew := B14.out.drew
    go_region_held3 (fun w' => w'.cell? ⟨w.heap.size, 0, none⟩ = some (.slice ao n cap) ∧ w'.cell? ⟨w.heap.size, 1, none⟩ = some (.int .i64 K)) (go_keep)
      (first | (go_at_call 17; (with_reducible refine Calls.mono (cs.out _ BX0) ?_); rintro e w5 ⟨⟨bo, d, rfl, i5, _⟩, b5⟩; have B15 : Hid (Below w1.heap.size w1 w5) := BX0.trans (b5.mono BX0.size); have I5 : Hid (Is w5 bo L) := i5; obtain ⟨x0, x1⟩ := two_below HC.out B15.out s1; clear b5 i5)
             | (go_at_call 41; (with_reducible refine Calls.mono (cn.out _) ?_); rintro e w' ⟨rfl, hw'⟩; subst w'))
    all_goals
      have HT : Hid (Told5 w L 0 0 (.returned (.tuple #[.slice bo L.length d, .int .i64 0, .int .i64 0])) w5) := ⟨⟨_, _, rfl, I5.out⟩, B1.out.trans (B15.out.mono B1.out.size)⟩
      clear I5
      go_wp2_with fail
      refine bodyPost_ret (results_tmp3 rfl _ _ _) rfl ?_
      exact HT.out
  · rw [hz] at cz
    rw [spc_ok he, spq_ok he, he]
    obtain ⟨L, hL⟩ : ∃ L, cts P n K s = L := ⟨_, rfl⟩
    rw [hL] at cs ⊢
    obtain ⟨f, hfe⟩ : ∃ f, (fks P n least).length = f := ⟨_, rfl⟩
    rw [hfe] at CPa hf hfl q0 q1 ⊢
    generalize ct n s.size z = C at *
    obtain ⟨Q, hQ⟩ : ∃ Q, (f : Int) * C = Q := ⟨_, rfl⟩
    rw [hQ] at q0 q1 ⊢
    have hQw : IntKind.i64.wrap ((f : Int) * C) = Q := by rw [hQ, IntKind.wrap_i64]; omega
    have hf0 : (0 : Int) < (f : Int) := by omega
    clear hQ
    clear he hr hp hL hfe b1 hl HL
    go_enter Tryd.func20, Tryd.ntmps20
    go_wp2_with (first | rw [← E1.out])
    refine Calls.mono (Hid.out cr) ?_; rintro e w2 ⟨rfl, b2⟩
    have B12 : Hid (Below w1.heap.size w1 w2) := b2
    have cp : Hid _ := CP.out w2 b2
    obtain ⟨d0, d1⟩ := two_below HC.out b2 s1
    clear b2 cr c0 c1 E1 CP
    go_wp2_with fail
    refine Calls.mono (Hid.out cp) ?_; rintro e w3 ⟨rfl, b3⟩
    have B13 : Hid (Below w1.heap.size w1 w3) := B12.out.trans (b3.mono B12.out.size)
    have ca : Hid _ := CPa.out w3 B13.out
    obtain ⟨d0, d1⟩ := two_below HC.out B13.out s1
    clear b3 cp CPa
    go_wp2_with fail
    refine Calls.mono (Hid.out ca) ?_; rintro e w4 ⟨⟨fo, fd, rfl⟩, b4⟩
    have B14 : Hid (Below w1.heap.size w1 w4) := B13.out.trans (b4.mono B13.out.size)
    have HC4 : Hid (w4.cell? ⟨w.heap.size, 0, none⟩ = some (.slice ao n cap) ∧ w4.cell? ⟨w.heap.size, 1, none⟩ = some (.int .i64 K)) := two_below HC.out B14.out s1
    have d0 := HC4.out.1
    have d1 := HC4.out.2
    clear b4 ca
    go_wp2_with fail
    refine Calls.mono (cz.out _) ?_; rintro e w' ⟨rfl, hw'⟩; subst w'
    go_wp2_with fail
    have BX0 : Below w1.heap.size w1 w4.drew := B14.out.drew
    go_region_held3 (fun w' => w'.cell? ⟨w.heap.size, 0, none⟩ = some (.slice ao n cap) ∧ w'.cell? ⟨w.heap.size, 1, none⟩ = some (.int .i64 K)) (go_keep)
      (first | (go_at_call 17; (with_reducible refine Calls.mono (cs.out _ BX0) ?_); rintro e w5 ⟨⟨bo, d, rfl, i5, _⟩, b5⟩; have B15 : Hid (Below w1.heap.size w1 w5) := BX0.trans (b5.mono BX0.size); have I5 : Hid (Is w5 bo L) := i5; obtain ⟨x0, x1⟩ := two_below HC.out B15.out s1; clear b5 i5)
             | (go_at_call 41; (with_reducible refine Calls.mono (cn.out _) ?_); rintro e w' ⟨rfl, hw'⟩; subst w'))
    all_goals
      have HT : Hid (Told5 w L Q 0 (.returned (.tuple #[.slice bo L.length d, .int .i64 Q, .int .i64 0])) w5) := ⟨⟨_, _, rfl, I5.out⟩, B1.out.trans (B15.out.mono B1.out.size)⟩
      clear I5
      go_wp2_with fail
      refine bodyPost_ret (results_tmp3 rfl _ _ _) rfl ?_
      exact HT.out
  · have hne : ¬ spe P n K s.size z least = 0 := by rw [he]; decide
    rw [spc_no hne, spq_no hne, he]
    rw [hz] at cz
    obtain ⟨f, hfe⟩ : ∃ f, (fks P n least).length = f := ⟨_, rfl⟩
    rw [hfe] at CPa hf hfl
    have hf0 : (0 : Int) < (f : Int) := by omega
    clear he hne hr hp hfe b1 hl HL q0 q1 ct0 ct1 cn cs
    go_enter Tryd.func20, Tryd.ntmps20
    go_wp2_with (first | rw [← E1.out])
    refine Calls.mono (Hid.out cr) ?_; rintro e w2 ⟨rfl, b2⟩
    have B12 : Hid (Below w1.heap.size w1 w2) := b2
    have cp : Hid _ := CP.out w2 b2
    obtain ⟨d0, d1⟩ := two_below HC.out b2 s1
    clear b2 cr c0 c1 E1 CP
    go_wp2_with fail
    refine Calls.mono (Hid.out cp) ?_; rintro e w3 ⟨rfl, b3⟩
    have B13 : Hid (Below w1.heap.size w1 w3) := B12.out.trans (b3.mono B12.out.size)
    have ca : Hid _ := CPa.out w3 B13.out
    obtain ⟨d0, d1⟩ := two_below HC.out B13.out s1
    clear b3 cp CPa
    go_wp2_with fail
    refine Calls.mono (Hid.out ca) ?_; rintro e w4 ⟨⟨fo, fd, rfl⟩, b4⟩
    have B14 : Hid (Below w1.heap.size w1 w4) := B13.out.trans (b4.mono B13.out.size)
    have HC4 : Hid (w4.cell? ⟨w.heap.size, 0, none⟩ = some (.slice ao n cap) ∧ w4.cell? ⟨w.heap.size, 1, none⟩ = some (.int .i64 K)) := two_below HC.out B14.out s1
    have d0 := HC4.out.1
    have d1 := HC4.out.2
    clear b4 ca
    go_wp2_with fail
    refine Calls.mono (cz.out _) ?_; rintro e w' ⟨rfl, hw'⟩; subst w'
    have BR : Hid (Below w.heap.size w w4) := B1.out.trans (B14.out.mono B1.out.size)
    go_wp2_with fail
    refine bodyPost_ret (results_tmp3 rfl _ _ _) rfl ?_
    exact told5_nil BR.out

end Cls

end Go.Proofs.YtlogdjhnhnfbkaaDoor
