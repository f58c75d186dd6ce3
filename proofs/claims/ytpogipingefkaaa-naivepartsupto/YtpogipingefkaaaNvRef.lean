/- Contracts of the document's At, Counts, Find, First. -/
import Derived.Test.YtpogipingefkaaaNvAt
import Derived.Test.YtpogipingefkaaaLfA
namespace Go.Proofs.Ytpogipingefkaaa
open Go.RowKit Go.Shelf
namespace Cls

set_option maxHeartbeats 1000000 in
theorem refAt_any (P : Nat → Nat → Bool) (n cap : Nat) (ao : Option Addr) (K : Int) (s : ByteArray) (i : Int) (hs : s.size ≤ 1000000) (hi64 : i ≤ 9223372036854775807) (w : World) (hl : Lf w ao n P) :
    Calls Try.prog 12 #[.agg #[.slice ao n cap, .int .i64 K], .string s, .int .i64 i] w fun e w' => e = .returned (.tuple #[.int .i64 ((atv P n K s i : Nat) : Int), .bool (ata P n K s i)]) ∧ Below w.heap.size w w' := by
  obtain ⟨w1, b1⟩ := lbox w (.slice ao n cap) (.int .i64 K)
  have E1 : Hid _ := b1.eq
  have B1 : Hid (Below w.heap.size w w1) := b1.bel
  have s1 : w.heap.size < w1.heap.size := by have := b1.size; omega
  have HC : Hid (w1.cell? ⟨w.heap.size, 0, none⟩ = some (.slice ao n cap) ∧ w1.cell? ⟨w.heap.size, 1, none⟩ = some (.int .i64 K)) := ⟨b1.c0, b1.c1⟩
  have c0 := HC.out.1
  have c1 := HC.out.2
  have HL1 : Hid (Lf w1 ao n P) := hl.grow b1.bel
  have cc : Hid _ := refRight_any P n cap ao K w1 HL1.out
  have hn := hl.small
  clear b1 hl
  by_cases hyes : rgt P n K = true ∧ 0 ≤ i ∧ i + n ≤ s.size
  · obtain ⟨hr, h0, hle⟩ := hyes
    obtain ⟨_, h64, _, _⟩ := rgt_len hr
    rw [hr] at cc
    obtain ⟨q, rfl⟩ : ∃ q : Nat, i = (q : Int) := ⟨i.toNat, by omega⟩
    have hq : q + n ≤ s.size := by omega
    have ea : ata P n K s q = true := by unfold ata; exact decide_eq_true ⟨h0, by have := (stn_lt (P := P) (m := n) (n := s.size) (K := K) (i := q)).2 ⟨hr, hq⟩; omega⟩
    have ev : atv P n K s q = mis P s q n := by unfold atv; rw [if_pos ea]; rfl
    rw [ea, ev]
    have g1 : ¬ (q : Int) < 0 := by omega
    have g2 : ¬ (s.size : Int) - (n : Int) < (q : Int) := by omega
    have hm0 : Hid _ := mis_zero P s q
    clear ea ev hr
    go_enter Try.func12, Try.ntmps12
    go_wp2_with (first | rw [← E1.out])
    refine Calls.mono (Hid.out cc) ?_; rintro e w2 ⟨rfl, b2⟩
    have B2 : Hid (Below w.heap.size w w2) := B1.out.trans (b2.mono B1.out.size)
    have HC2 : Hid (w2.cell? ⟨w.heap.size, 0, none⟩ = some (.slice ao n cap) ∧ w2.cell? ⟨w.heap.size, 1, none⟩ = some (.int .i64 K)) := two_below HC.out b2 s1
    have s2 : w.heap.size < w2.heap.size := Nat.lt_of_lt_of_le s1 b2.size
    have HL2 : Hid (Lf w2 ao n P) := HL1.out.grow b2
    have d0 := HC2.out.1
    clear b2 cc c0 c1 E1
    go_wp2_with fail
    clear d0
    go_loopw [8, 9] (fun vn vk wr => Below w2.heap.size w2 wr ∧ ∃ k : Nat, k ≤ n ∧ vk = .int .i64 k ∧ vn = .int .i64 ((mis P s q k : Nat) : Int)) (fun _ vk _ => n - (intOf vk).toNat)
    case atStart => exact ⟨Below.refl _ _, 0, Nat.zero_le _, rfl, by rw [hm0.out]; rfl⟩
    case round =>
      obtain ⟨hbel, k, hk, rfl, rfl⟩ := hrel
      have HB : Hid _ := hbel
      have HLr : Hid (Lf wr ao n P) := HL2.out.grow hbel
      have HCr : Hid (wr.cell? ⟨w.heap.size, 0, none⟩ = some (.slice ao n cap) ∧ wr.cell? ⟨w.heap.size, 1, none⟩ = some (.int .i64 K)) := two_below HC2.out hbel s2
      have sr : w.heap.size < wr.heap.size := Nat.lt_of_lt_of_le s2 hbel.size
      have d0 := HCr.out.1
      clear hbel
      by_cases hkn : k < n
      · obtain ⟨b, o, rfl, hb, hC⟩ := HLr.out.lies (by omega)
        have HCl : Hid (Cl wr b o n P) := hC
        obtain ⟨c0, c1, c2, c3⟩ := hC.four hkn
        have hkI : (k : Int) < (n : Int) := by omega
        have hbt := byt_lt s (q + k)
        have hik : q + k < s.size := by omega
        obtain ⟨p, hp⟩ : ∃ p, q + k = p := ⟨_, rfl⟩
        have hpI : (q : Int) + (k : Int) = (p : Int) := by omega
        rw [hp] at hik hbt
        have hwq : IntKind.i64.wrap (p : Int) = (p : Int) := by rw [IntKind.wrap_i64]; omega
        have hwr : IntKind.i64.wrap ((q : Int) + (k : Int)) = (p : Int) := by rw [hpI]; exact hwq
        have hi1 : (p : Int) < (s.size : Int) := by omega
        have hidx := idx_str s p hik
        have hcc : Hid _ := fun v => refHas_any (P k) (byt s p) hbt v
        have hsu : Hid _ := mis_succ P s q k
        rw [hp] at hsu
        have hle2 := mis_le P s q k
        clear hC
        go_wp2_with fail
        go_region_held3 (fun w' => w'.cell? ⟨w.heap.size, 0, none⟩ = some (.slice (some ⟨b, o, none⟩) n cap) ∧ w'.cell? ⟨b, o + k * 4, none⟩ = some (.int .u64 ((wd (P k) 0 : Nat) : Int)) ∧ w'.cell? ⟨b, o + k * 4 + 1, none⟩ = some (.int .u64 ((wd (P k) 1 : Nat) : Int)) ∧ w'.cell? ⟨b, o + k * 4 + 2, none⟩ = some (.int .u64 ((wd (P k) 2 : Nat) : Int)) ∧ w'.cell? ⟨b, o + k * 4 + 3, none⟩ = some (.int .u64 ((wd (P k) 3 : Nat) : Int))) (go_keep)
          (first | (go_at_call 27; refine Calls.mono (hcc.out _) ?_; rintro e w3 ⟨rfl, b3⟩; have b3' : Below wr.heap.size wr w3 := undrew b3; have HB3 : Hid (Below w2.heap.size w2 w3) := HB.out.trans (b3'.mono HB.out.size); have y0 := (two_below HCr.out b3' sr).1; obtain ⟨m0, m1, m2, m3⟩ := (HCl.out.below b3' hb).four hkn; clear b3 b3'))
        cases hpk : P k (byt s p) with
        | false =>
          rw [hpk] at hsu
          go_wp2_with fail
          go_roundw
          case rel => exact ⟨HB3.out, k + 1, by omega, by go_num, by rw [hsu.out]; go_num⟩
          case measure => simp [intOf]; omega
        | true =>
          rw [hpk] at hsu
          go_wp2_with fail
          go_roundw
          case rel => exact ⟨HB3.out, k + 1, by omega, by go_num, by rw [hsu.out]; simp⟩
          case measure => simp [intOf]; omega
      · obtain rfl : k = n := by omega
        have B3 : Hid (Below w.heap.size w wr) := B2.out.trans (HB.out.mono B2.out.size)
        go_wp2_with fail
        refine bodyPost_ret (results_tmp2 rfl _ _ _) rfl ?_
        exact ⟨rfl, B3.out⟩
  · have ea : ata P n K s i = false := by
      unfold ata
      refine decide_eq_false (fun h => hyes ?_)
      have := (stn_lt (P := P) (m := n) (n := s.size) (K := K) (i := i.toNat)).1 (by omega)
      exact ⟨this.1, h.1, by omega⟩
    have ev : atv P n K s i = 0 := by unfold atv; rw [if_neg (by rw [ea]; decide)]
    rw [ea, ev]
    clear ea ev
    cases hr : rgt P n K with
    | false =>
      rw [hr] at cc
      clear hyes
      go_enter Try.func12, Try.ntmps12
      go_wp2_with (first | rw [← E1.out])
      refine Calls.mono (Hid.out cc) ?_; rintro e w2 ⟨rfl, b2⟩
      have B2 : Hid (Below w.heap.size w w2) := B1.out.trans (b2.mono B1.out.size)
      clear b2 cc c0 c1 E1
      go_wp2_with fail
      refine bodyPost_ret (results_tmp2 rfl _ _ _) rfl ?_
      exact ⟨rfl, B2.out⟩
    | true =>
      rw [hr] at cc
      obtain ⟨_, h64, _, _⟩ := rgt_len hr
      have hno : i < 0 ∨ (s.size : Int) - (n : Int) < i := by
        by_cases h0 : 0 ≤ i
        · exact .inr (by have : ¬ i + n ≤ s.size := fun h => hyes ⟨hr, h0, h⟩; omega)
        · exact .inl (by omega)
      clear hyes hr
      rcases hno with h | h
      · go_enter Try.func12, Try.ntmps12
        go_wp2_with (first | rw [← E1.out])
        refine Calls.mono (Hid.out cc) ?_; rintro e w2 ⟨rfl, b2⟩
        have B2 : Hid (Below w.heap.size w w2) := B1.out.trans (b2.mono B1.out.size)
        clear b2 cc c0 c1 E1
        go_wp2_with fail
        refine bodyPost_ret (results_tmp2 rfl _ _ _) rfl ?_
        exact ⟨rfl, B2.out⟩
      · by_cases h0 : i < 0
        · go_enter Try.func12, Try.ntmps12
          go_wp2_with (first | rw [← E1.out])
          refine Calls.mono (Hid.out cc) ?_; rintro e w2 ⟨rfl, b2⟩
          have B2 : Hid (Below w.heap.size w w2) := B1.out.trans (b2.mono B1.out.size)
          clear b2 cc c0 c1 E1
          go_wp2_with fail
          refine bodyPost_ret (results_tmp2 rfl _ _ _) rfl ?_
          exact ⟨rfl, B2.out⟩
        · have h0' : 0 ≤ i := by omega
          go_enter Try.func12, Try.ntmps12
          go_wp2_with (first | rw [← E1.out])
          refine Calls.mono (Hid.out cc) ?_; rintro e w2 ⟨rfl, b2⟩
          have B2 : Hid (Below w.heap.size w w2) := B1.out.trans (b2.mono B1.out.size)
          have d0 := (two_below HC.out b2 s1).1
          clear b2 cc c0 c1 E1
          go_wp2_with fail
          refine bodyPost_ret (results_tmp2 rfl _ _ _) rfl ?_
          exact ⟨rfl, B2.out⟩

theorem ata_at {P : Nat → Nat → Bool} {n : Nat} {K : Int} {s : ByteArray} {k : Nat} : ata P n K s (k : Int) = decide (k < stn P n K s.size) := by
  unfold ata
  rw [decide_eq_decide]
  omega

theorem atv_at {P : Nat → Nat → Bool} {n : Nat} {K : Int} {s : ByteArray} {k : Nat} (h : k < stn P n K s.size) : atv P n K s (k : Int) = mis P s k n := by
  unfold atv
  rw [ata_at, if_pos (decide_eq_true h)]
  rfl

set_option maxHeartbeats 1000000 in
theorem refCounts_any (P : Nat → Nat → Bool) (n cap : Nat) (ao : Option Addr) (K : Int) (s : ByteArray) (hs : s.size ≤ 1000000) (w : World) (hl : Lf w ao n P) :
    Calls Try.prog 15 #[.agg #[.slice ao n cap, .int .i64 K], .string s] w (Told w (cts P n K s)) := by
  obtain ⟨w1, b1⟩ := lbox w (.slice ao n cap) (.int .i64 K)
  have E1 : Hid _ := b1.eq
  have B1 : Hid (Below w.heap.size w w1) := b1.bel
  have s1 : w.heap.size < w1.heap.size := by have := b1.size; omega
  have HC : Hid (w1.cell? ⟨w.heap.size, 0, none⟩ = some (.slice ao n cap) ∧ w1.cell? ⟨w.heap.size, 1, none⟩ = some (.int .i64 K)) := ⟨b1.c0, b1.c1⟩
  have HL1 : Hid (Lf w1 ao n P) := hl.grow b1.bel
  obtain ⟨i0, hi, hz0, hz1, hz2⟩ := infoI
  have hst := stn_le P n s.size K
  clear b1 hl
  go_enter Try.func15, Try.ntmps15
  go_wp2_with (first | rw [← E1.out])
  clear E1
  go_loopw [5, 6] (fun vo vk wr => Below w1.heap.size w1 wr ∧ ∃ k : Nat, k ≤ s.size + 1 ∧ vk = .int .i64 k ∧ OwnI wr w1.heap.size vo (ctk P n K s k)) (fun _ vk _ => s.size + 1 - (intOf vk).toNat)
  case atStart => exact ⟨Below.refl _ _, 0, Nat.zero_le _, rfl, by rw [ctk_zero]; exact World.ownsRow_nil _ _ _ _⟩
  case round =>
    obtain ⟨hbel, k, hk, rfl, hown⟩ := hrel
    have HB : Hid _ := hbel
    have HCr : Hid (wr.cell? ⟨w.heap.size, 0, none⟩ = some (.slice ao n cap) ∧ wr.cell? ⟨w.heap.size, 1, none⟩ = some (.int .i64 K)) := two_below HC.out hbel s1
    have HLr : Hid (Lf wr ao n P) := HL1.out.grow hbel
    have d0 := HCr.out.1
    have d1 := HCr.out.2
    have HO : Hid (wr.ownsRow w1.heap.size 3 1 u5 (ctk P n K s k).length (pls (ctk P n K s k))) := hown
    clear hbel hown
    by_cases hks : k ≤ s.size
    · have hkI : (k : Int) ≤ (s.size : Int) := by omega
      have cc : Hid _ := refAt_any P n cap ao K s (k : Int) hs (by omega) wr HLr.out
      have hlen := ctk_len P n K s k
      by_cases hkn : k < stn P n K s.size
      · rw [ata_at, atv_at hkn, decide_eq_true hkn] at cc
        have HW : Hid _ := ctk_yes hkn
        go_wp2_with fail
        refine Calls.mono (Hid.out cc) ?_; rintro e w3 ⟨rfl, b3⟩
        have HB3 : Hid (Below w1.heap.size w1 w3) := HB.out.trans (b3.mono HB.out.size)
        have hsz : w1.heap.size ≤ w3.heap.size := HB3.out.size
        have O3 : w3.ownsRow w1.heap.size 3 1 u5 (ctk P n K s k).length (pls (ctk P n K s k)) := ownsRow_block HO.out (fun g _ hg => b3.block g hg)
        clear b3 cc HO
        go_wp2_with (first | (at_builtin; refine wpList_append_own _ rfl _ _ 30 rfl w1.heap.size 3 i0 (.int .i64 0) 1 8 Try.underlying30 hi hz0 hz1 hz2 rfl (by decide) _ _ _ rfl (O3.alloc _) ⟨w3.heap.size, 0, none⟩ 1 1 [.int .i64 ((mis P s k n : Nat) : Int)] rfl rfl ?c1 ?c2 ?c3 ?c4 ?c5 ?_))
        case c1 =>
          intro j' u hj'
          match j', hj' with
          | 0, hj' => simp at hj'; subst hj'; simp [Addr.add]
        case c2 => intro u hu; simp at hu; subst hu; rfl
        case c3 => unfold maxLen; omega
        case c4 => omega
        case c5 => simp; omega
        · intro v' w4 hown' hgrow _
          have HR : Hid (Below w1.heap.size w1 w4) := grow_below hsz HB3.out O3 hgrow
          have HO4 : Hid (OwnI w4 w1.heap.size v' (ctk P n K s (k + 1))) := by show OwnI _ _ _ _; unfold OwnI; rw [HW.out, List.length_append, pls, List.map_append]; exact hown'
          clear hown' hgrow O3 HB3
          go_wp2_with fail
          go_roundw
          case rel => exact ⟨HR.out, k + 1, by omega, by go_num, HO4.out⟩
          case measure => simp [intOf]; omega
      · rw [ata_at, decide_eq_false hkn] at cc
        have HW : Hid _ := ctk_no hkn
        go_wp2_with fail
        refine Calls.mono (Hid.out cc) ?_; rintro e w3 ⟨rfl, b3⟩
        have HB3 : Hid (Below w1.heap.size w1 w3) := HB.out.trans (b3.mono HB.out.size)
        have O3 : Hid (w3.ownsRow w1.heap.size 3 1 u5 (ctk P n K s k).length (pls (ctk P n K s k))) := ownsRow_block HO.out (fun g _ hg => b3.block g hg)
        clear b3 cc HO
        go_wp2_with fail
        go_roundw
        case rel => exact ⟨HB3.out, k + 1, by omega, by go_num, by rw [HW.out]; exact O3.out⟩
        case measure => simp [intOf]; omega
    · have hkI : (s.size : Int) < (k : Int) := by omega
      have HE : Hid (ctk P n K s k = cts P n K s) := ctk_end (by omega)
      have HT : Hid (Told w (cts P n K s) (.returned u5) wr) := by
        have h : Told w1 (ctk P n K s k) (.returned u5) wr := told_of HO.out HB.out
        rw [HE.out] at h
        exact h.from B1.out
      obtain ⟨⟨bo, d, e, _⟩, _⟩ := HT.out
      cases e
      clear HO
      go_wp2_with fail
      go_ret
      exact HT.out

set_option maxHeartbeats 1000000 in
theorem refFind_any (P : Nat → Nat → Bool) (n cap : Nat) (ao : Option Addr) (K : Int) (s : ByteArray) (hs : s.size ≤ 1000000) (w : World) (hl : Lf w ao n P) :
    Calls Try.prog 19 #[.agg #[.slice ao n cap, .int .i64 K], .string s] w (Told w (fnd P n K s)) := by
  obtain ⟨w1, b1⟩ := lbox w (.slice ao n cap) (.int .i64 K)
  have E1 : Hid _ := b1.eq
  have B1 : Hid (Below w.heap.size w w1) := b1.bel
  have s1 : w.heap.size < w1.heap.size := by have := b1.size; omega
  have HC : Hid (w1.cell? ⟨w.heap.size, 0, none⟩ = some (.slice ao n cap) ∧ w1.cell? ⟨w.heap.size, 1, none⟩ = some (.int .i64 K)) := ⟨b1.c0, b1.c1⟩
  have d0 := HC.out.1
  have d1 := HC.out.2
  have HL1 : Hid (Lf w1 ao n P) := hl.grow b1.bel
  have cc : Hid (∀ v, Below w1.heap.size w1 v → Calls Try.prog 15 #[.agg #[.slice ao n cap, .int .i64 K], .string s] v (Told v (cts P n K s))) := fun v hv => refCounts_any P n cap ao K s hs v (HL1.out.grow hv)
  obtain ⟨L, hL⟩ : ∃ L, cts P n K s = L := ⟨_, rfl⟩
  have hLn : L.length ≤ 1000001 := by rw [← hL, cts_len]; have := stn_le P n s.size K; omega
  have HF : Hid (fnd P n K s = hts (fun t => ((L.getD t 0 : Nat) : Int)) K L.length) := by
    show _ = _
    rw [fnd_hts, ← hL, cts_len]
    refine hts_congr (fun i hi => ?_)
    have hl : i < (cts P n K s).length := by rw [cts_len]; exact hi
    have e : (cts P n K s).getD i 0 = mis P s i n := by rw [List.getD_eq_getElem?_getD, List.getElem?_eq_getElem hl, cts_at]; rfl
    rw [e]
  have hh : Hid (∀ (v : World) (bo : Option Addr) (d : Nat), Is v bo L → Calls Try.prog 21 #[.slice bo L.length d, .int .i64 K] v (Told v (hts (fun t => ((L.getD t 0 : Nat) : Int)) K L.length))) := fun v bo d hi => refHits_any _ K L.length d bo (by omega) v hi.ir
  rw [hL] at cc
  clear b1 hl hL
  go_enter Try.func19, Try.ntmps19
  go_wp2_with (first | rw [← E1.out])
  clear E1
  go_region_held3 (fun w' => w'.cell? ⟨w.heap.size, 0, none⟩ = some (.slice ao n cap) ∧ w'.cell? ⟨w.heap.size, 1, none⟩ = some (.int .i64 K)) (go_keep)
    (first | (go_at_call 15; refine Calls.mono (cc.out _ (by first | exact (Below.refl _ _).drew)) ?_; rintro e w3 ⟨⟨bo, d, rfl, hi3, _⟩, b3⟩; have b3' : Below w1.heap.size w1 w3 := undrew b3; have HB3 : Hid (Below w.heap.size w w3) := B1.out.trans (b3'.mono B1.out.size); have y0 := (two_below HC.out b3' s1).1; have y1 := (two_below HC.out b3' s1).2; have HI3 : Hid (Is w3 bo L) := hi3; have sz3 : w.heap.size < w3.heap.size := Nat.lt_of_lt_of_le s1 b3'.size; have HC3 : Hid (w3.cell? ⟨w.heap.size, 0, none⟩ = some (.slice ao n cap) ∧ w3.cell? ⟨w.heap.size, 1, none⟩ = some (.int .i64 K)) := ⟨y0, y1⟩; clear b3 b3' hi3)
           | (go_at_call 21; refine Calls.mono (hh.out _ bo d HI3.out) ?_; rintro e w4 h4; have HT : Hid (Told w (fnd P n K s) e w4) := (by show Told _ _ _ _; rw [HF.out]; exact h4.from HB3.out); obtain ⟨⟨bo4, d4, rfl, _⟩, b4⟩ := h4; have x0 := (two_below HC3.out b4 sz3).1; have x1 := (two_below HC3.out b4 sz3).2; clear b4))
  go_wp2_with fail
  go_ret
  exact HT.out

set_option maxHeartbeats 1000000 in
theorem refFirst_any (P : Nat → Nat → Bool) (n cap : Nat) (ao : Option Addr) (K x : Int) (s : ByteArray) (hs : s.size ≤ 1000000) (w : World) (hl : Lf w ao n P) :
    Calls Try.prog 17 #[.agg #[.slice ao n cap, .int .i64 K], .string s, .int .i64 x] w fun e w' => e = .returned (.tuple #[.int .i64 (((fst' (fnd P n K s) x).getD 0 : Nat) : Int), .bool (fst' (fnd P n K s) x).isSome]) ∧ Below w.heap.size w w' := by
  obtain ⟨w1, b1⟩ := lbox w (.slice ao n cap) (.int .i64 K)
  have E1 : Hid _ := b1.eq
  have B1 : Hid (Below w.heap.size w w1) := b1.bel
  have d0 := b1.c0
  have d1 := b1.c1
  have cc : Hid _ := refFind_any P n cap ao K s hs w1 (hl.grow b1.bel)
  have hlen := fnd_len P n K s
  obtain ⟨L, hL⟩ : ∃ L, fnd P n K s = L := ⟨_, rfl⟩
  rw [hL] at cc hlen ⊢
  clear b1 hl hL
  go_enter Try.func17, Try.ntmps17
  go_wp2_with (first | rw [← E1.out])
  refine Calls.mono (Hid.out cc) ?_; rintro e w2 ⟨⟨bo, d, rfl, hi2, _⟩, b2⟩
  have B2 : Hid (Below w.heap.size w w2) := B1.out.trans (b2.mono B1.out.size)
  have HI : Hid (Is w2 bo L) := hi2
  obtain ⟨m, hm⟩ : ∃ m, L.length = m := ⟨_, rfl⟩
  have HM : Hid (L.length = m) := hm
  rw [hm] at hlen ⊢
  clear E1 cc b2 d0 d1 hi2 hm
  go_wp2_with fail
  go_loopw [9] (fun vk wr => Below w2.heap.size w2 wr ∧ ∃ k : Nat, k ≤ m ∧ vk = .int .i64 k ∧ ∀ t, (ht : t < L.length) → t < k → ¬ x ≤ ((L[t] : Nat) : Int)) (fun vk _ => m - (intOf vk).toNat)
  case atStart => exact ⟨Below.refl _ _, 0, Nat.zero_le _, rfl, fun t _ ht => by omega⟩
  case round =>
    obtain ⟨hbel, k, hk, rfl, hno⟩ := hrel
    have HB : Hid _ := hbel
    have HN : Hid _ := hno
    have HIr : Hid (Is wr bo L) := HI.out.grow hbel
    clear hbel hno
    by_cases hkm : k < m
    · have hkL : k < L.length := by rw [HM.out]; exact hkm
      obtain ⟨b, rfl, hb, hC⟩ := HIr.out (by omega)
      have c0 := hC k hkL
      have hkI : (k : Int) < (m : Int) := by omega
      obtain ⟨y, hy⟩ : ∃ y, L[k] = y := ⟨_, rfl⟩
      rw [hy] at c0
      clear hC
      by_cases hxy : x ≤ (y : Int)
      · have HE : Hid (fst' L x = some y) := by
          show _ = _
          rw [fst_yes hkL (fun t ht => HN.out t (by omega) ht) (by rw [hy]; exact hxy), hy]
        have B3 : Hid (Below w.heap.size w wr) := B2.out.trans (HB.out.mono B2.out.size)
        clear hy
        go_wp2_with fail
        refine bodyPost_ret (results_tmp2 rfl _ _ _) rfl ?_
        exact ⟨by rw [HE.out]; rfl, B3.out⟩
      · have hxy2 : (y : Int) < x := by omega
        have HY : Hid (L[k] = y) := hy
        clear hy
        go_wp2_with fail
        go_roundw
        case rel => exact ⟨HB.out, k + 1, by omega, by go_num, fun t ht htk => by
          by_cases e : t = k
          · subst e; rw [HY.out]; omega
          · exact HN.out t ht (by omega)⟩
        case measure => simp [intOf]; omega
    · obtain rfl : k = m := by omega
      have HE : Hid (fst' L x = none) := fst_no (fun t ht => HN.out t ht (by rw [← HM.out]; exact ht))
      have B3 : Hid (Below w.heap.size w wr) := B2.out.trans (HB.out.mono B2.out.size)
      go_wp2_with fail
      refine bodyPost_ret (results_tmp2 rfl _ _ _) rfl ?_
      exact ⟨by rw [HE.out]; rfl, B3.out⟩

end Cls
end Go.Proofs.Ytpogipingefkaaa
