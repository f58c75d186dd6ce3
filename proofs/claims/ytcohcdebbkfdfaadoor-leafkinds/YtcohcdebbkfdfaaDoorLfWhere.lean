/- Rows of places that are appended to; contracts of leaf.Where, and of the document's Where, Places. -/
import Derived.Test.YtcohcdebbkfdfaaDoorLfEq
namespace Go.Proofs.YtcohcdebbkfdfaaDoor
open Go.RowKit
namespace Cls

def pls (L : List Nat) : List Value := L.map fun t => .int .i64 ((t : Nat) : Int)

def OwnI (w : World) (B : Nat) (v : Value) (L : List Nat) : Prop := w.ownsRow B 3 1 v L.length (pls L)

/-- A slice of places. -/
def Is (w : World) (ao : Option Addr) (L : List Nat) : Prop := 1 ≤ L.length → ∃ b, ao = some ⟨b, 0, none⟩ ∧ b < w.heap.size ∧ ∀ t, (h : t < L.length) → w.cell? ⟨b, t, none⟩ = some (.int .i64 ((L[t] : Nat) : Int))

theorem Is.grow {w w' : World} {ao : Option Addr} {L : List Nat} (h : Is w ao L) (hb : Below w.heap.size w w') : Is w' ao L := fun hn => by
  obtain ⟨b, e, hlt, hc⟩ := h hn
  exact ⟨b, e, Nat.lt_of_lt_of_le hlt hb.size, fun t ht => (hb.cell (p := ⟨b, t, none⟩) hlt).trans (hc t ht)⟩

theorem ownI_is {w : World} {B : Nat} {v : Value} {L : List Nat} (h : OwnI w B v L) : ∃ ao c, v = .slice ao L.length c ∧ Is w ao L := by
  by_cases hn : 1 ≤ L.length
  · obtain ⟨g, cap, hv, _, _, hlt, hc, _⟩ := owns_cells h hn
    refine ⟨_, cap, hv, fun _ => ⟨g, rfl, hlt, fun t ht => ?_⟩⟩
    rw [hc t (by omega)]
    simp [pls, ht]
  · obtain ⟨_, ⟨e, e2⟩ | ⟨g', cap, cur, hv, _⟩⟩ := h
    · exact ⟨none, 0, by rw [e, e2], fun h => absurd h hn⟩
    · exact ⟨_, _, hv, fun h => absurd h hn⟩

theorem infoI : ∃ i, Tryd.prog.info? 3 = some i ∧ i.zero = some (.int .i64 0) ∧ i.size = 1 ∧ i.bytes = 8 := by
  have h : (Tryd.prog.info? 3).map (fun i => (i.zero, i.size, i.bytes)) = some (some (.int .i64 0), 1, 8) := by kernel_rfl
  obtain ⟨i, hi, hz⟩ := Option.map_eq_some_iff.1 h
  simp only [Prod.mk.injEq] at hz
  exact ⟨i, hi, hz.1, hz.2.1, hz.2.2⟩

set_option maxHeartbeats 1000000 in
theorem where_core (P : Nat → Nat → Bool) (c : Nat → Bool) (n cap : Nat) (ao : Option Addr) (K : Int) (w : World) (hl : Lf w ao n P) :
    Calls Tryd.prog 27 #[.agg #[.slice ao n cap, .int .i64 K], .agg #[.int .u64 ((wd (c) 0 : Nat) : Int), .int .u64 ((wd (c) 1 : Nat) : Int), .int .u64 ((wd (c) 2 : Nat) : Int), .int .u64 ((wd (c) 3 : Nat) : Int)]] w fun e w' => (∃ bo d, e = .returned (.slice bo (wh P c n).length d) ∧ Is w' bo (wh P c n) ∧ (1 ≤ (wh P c n).length → ∃ g, bo = some ⟨g, 0, none⟩ ∧ w.heap.size ≤ g)) ∧ Below w.heap.size w w' := by
  obtain ⟨w1, b1⟩ := lbox w (.slice ao n cap) (.int .i64 K)
  obtain ⟨w2, b2⟩ := box w1 c
  have E1 : Hid _ := b1.eq
  have E2 : Hid _ := b2.eq
  have s1 : w.heap.size < w1.heap.size := by have := b1.size; omega
  have s2 : w1.heap.size < w2.heap.size := by have := b2.size; omega
  have B2 : Hid (Below w.heap.size w w2) := b1.bel.trans (b2.bel.mono b1.bel.size)
  have HC : Hid (w2.cell? ⟨w.heap.size, 0, none⟩ = some (.slice ao n cap) ∧ w2.cell? ⟨w.heap.size, 1, none⟩ = some (.int .i64 K)) := two_below ⟨b1.c0, b1.c1⟩ b2.bel s1
  have hc := HC.out.1
  have F2 : Hid (Fam w2 w1.heap.size 0 4 (wi c)) := b2.fam
  have HL : Hid (Lf w2 ao n P) := (hl.grow b1.bel).grow b2.bel
  have HS : Hid (w.heap.size + 1 = w1.heap.size) := b1.size.symm
  have hn := hl.small
  obtain ⟨i0, hi, hz0, hz1, hz2⟩ := infoI
  clear b1 b2 hl
  generalize w1.heap.size = g at *
  go_enter Tryd.func27, Tryd.ntmps27
  go_wp2_with (first | rw [← E1.out, ← E2.out, HS.out])
  clear E1 E2 HS hc
  go_loopw [5, 11] (fun vo vk wr => Below w2.heap.size w2 wr ∧ ∃ k : Nat, k ≤ n ∧ vk = .int .i64 k ∧ OwnI wr w2.heap.size vo (wh P c k)) (fun _ vk _ => n - (intOf vk).toNat)
  case atStart => exact ⟨Below.refl _ _, 0, Nat.zero_le _, rfl, World.ownsRow_nil _ _ _ _⟩
  case round =>
    obtain ⟨hbel, k, hk, rfl, hown⟩ := hrel
    have HB : Hid _ := hbel
    have HO : Hid _ := hown
    have HLr : Hid (Lf wr ao n P) := HL.out.grow hbel
    have FR : Hid (Fam wr g 0 4 (wi c)) := F2.out.below hbel s2
    have hsr : g < wr.heap.size := Nat.lt_of_lt_of_le s2 hbel.size
    clear hbel hown
    by_cases hkn : k < n
    · obtain ⟨b, o, rfl, hb, hC⟩ := HLr.out.lies (by omega)
      obtain ⟨c0, c1, c2, c3⟩ := hC.four hkn
      have hkI : (k : Int) < (n : Int) := by omega
      obtain ⟨w3, b3⟩ := box wr (P k)
      have E3 : Hid _ := b3.eq
      have HB3 : Hid (Below w2.heap.size w2 w3) := HB.out.trans (b3.bel.mono HB.out.size)
      obtain ⟨a0, a1, a2, a3⟩ := c4 b3.fam
      obtain ⟨d0, d1, d2, d3⟩ := c4 (Fam.below FR.out b3.bel hsr)
      have O3 : w3.ownsRow w2.heap.size 3 1 u5 (wh P c k).length (pls (wh P c k)) := owns_below HO.out b3.bel (Nat.le_refl _)
      have hsz : w2.heap.size ≤ w3.heap.size := HB3.out.size
      clear b3
      have HW : Hid _ := wh_succ P c k
      have hlen := wh_len P c k
      clear hC
      cases hs : sm (P k) c with
      | false =>
        rw [hs] at HW
        have HW' : Hid (wh P c (k + 1) = wh P c k) := by show _ = _; have := HW.out; simpa using this
        clear HW
        go_wp2_with (first | rw [← E3.out])
        go_roundw
        case rel => exact ⟨HB3.out, k + 1, by omega, by go_num, by rw [HW'.out]; exact O3⟩
        case measure => simp [intOf]; omega
      | true =>
        rw [hs] at HW
        have HW' : Hid (wh P c (k + 1) = wh P c k ++ [k]) := by show _ = _; have := HW.out; simpa using this
        clear HW
        go_wp2_with (first | rw [← E3.out] | (at_builtin; refine wpList_append_own _ rfl _ _ 39 rfl w2.heap.size 3 i0 (.int .i64 0) 1 8 Tryd.underlying39 hi hz0 hz1 hz2 rfl (by decide) _ _ _ rfl (O3.alloc _) ⟨w3.heap.size, 0, none⟩ 1 1 [.int .i64 (k : Int)] rfl rfl ?c1 ?c2 ?c3 ?c4 ?c5 ?_))
        case c1 =>
          intro j' u hj'
          match j', hj' with
          | 0, hj' => simp at hj'; subst hj'; simp [Addr.add]
        case c2 => intro u hu; simp at hu; subst hu; rfl
        case c3 => unfold maxLen; omega
        case c4 => omega
        case c5 => simp; omega
        · intro v' w4 hown' hgrow _
          have HR : Hid (Below w2.heap.size w2 w4) := grow_below hsz HB3.out O3 hgrow
          have HO4 : Hid (OwnI w4 w2.heap.size v' (wh P c (k + 1))) := by show OwnI _ _ _ _; unfold OwnI; rw [HW'.out, List.length_append, pls, List.map_append]; exact hown'
          clear hown' hgrow O3 HB3
          go_wp2_with fail
          go_roundw
          case rel => exact ⟨HR.out, k + 1, by omega, by go_num, HO4.out⟩
          case measure => simp [intOf]; omega
    · obtain rfl : k = n := by omega
      have hz := fun (h : 1 ≤ (wh P c k).length) => owns_cells (show World.ownsRow _ _ _ _ _ _ _ from HO.out) h
      obtain ⟨bo, d, rfl, hI⟩ := ownI_is HO.out
      have hs2 := B2.out.size
      have HI : Hid (Is wr bo (wh P c k) ∧ (1 ≤ (wh P c k).length → ∃ g, bo = some ⟨g, 0, none⟩ ∧ w.heap.size ≤ g)) := ⟨hI, fun h => by
        obtain ⟨g, cap, he, _, hg, _⟩ := hz h
        exact ⟨g, by injection he, by omega⟩⟩
      clear hz hs2
      have BR : Hid (Below w.heap.size w wr) := B2.out.trans (HB.out.mono B2.out.size)
      clear hI HO
      go_wp2_with fail
      go_ret
      exact ⟨⟨bo, d, rfl, HI.out⟩, BR.out⟩

theorem where_any (P : Nat → Nat → Bool) (c : Nat → Bool) (n cap : Nat) (ao : Option Addr) (K : Int) (w : World) (hl : Lf w ao n P) :
    Calls Tryd.prog 27 #[.agg #[.slice ao n cap, .int .i64 K], .agg #[.int .u64 ((wd (c) 0 : Nat) : Int), .int .u64 ((wd (c) 1 : Nat) : Int), .int .u64 ((wd (c) 2 : Nat) : Int), .int .u64 ((wd (c) 3 : Nat) : Int)]] w fun e w' => (∃ bo d, e = .returned (.slice bo (wh P c n).length d) ∧ Is w' bo (wh P c n)) ∧ Below w.heap.size w w' :=
  (where_core P c n cap ao K w hl).mono (by rintro e w' ⟨⟨bo, d, rfl, hk, _⟩, hb⟩; exact ⟨⟨bo, d, rfl, hk⟩, hb⟩)

set_option maxHeartbeats 1000000 in
theorem refWhere_any (P : Nat → Nat → Bool) (c : Nat → Bool) (n cap : Nat) (ao : Option Addr) (K : Int) (w : World) (hl : Lf w ao n P) :
    Calls Tryd.prog 28 #[.agg #[.slice ao n cap, .int .i64 K], .agg #[.int .u64 ((wd (c) 0 : Nat) : Int), .int .u64 ((wd (c) 1 : Nat) : Int), .int .u64 ((wd (c) 2 : Nat) : Int), .int .u64 ((wd (c) 3 : Nat) : Int)]] w fun e w' => (∃ bo d, e = .returned (.slice bo (wh P c n).length d) ∧ Is w' bo (wh P c n)) ∧ Below w.heap.size w w' := by
  obtain ⟨w1, b1⟩ := lbox w (.slice ao n cap) (.int .i64 K)
  obtain ⟨w2, b2⟩ := box w1 c
  have E1 : Hid _ := b1.eq
  have E2 : Hid _ := b2.eq
  have s1 : w.heap.size < w1.heap.size := by have := b1.size; omega
  have s2 : w1.heap.size < w2.heap.size := by have := b2.size; omega
  have B2 : Hid (Below w.heap.size w w2) := b1.bel.trans (b2.bel.mono b1.bel.size)
  have HC : Hid (w2.cell? ⟨w.heap.size, 0, none⟩ = some (.slice ao n cap) ∧ w2.cell? ⟨w.heap.size, 1, none⟩ = some (.int .i64 K)) := two_below ⟨b1.c0, b1.c1⟩ b2.bel s1
  have hc := HC.out.1
  have F2 : Hid (Fam w2 w1.heap.size 0 4 (wi c)) := b2.fam
  have HL : Hid (Lf w2 ao n P) := (hl.grow b1.bel).grow b2.bel
  have HS : Hid (w.heap.size + 1 = w1.heap.size) := b1.size.symm
  have hn := hl.small
  obtain ⟨i0, hi, hz0, hz1, hz2⟩ := infoI
  clear b1 b2 hl
  generalize w1.heap.size = g at *
  go_enter Tryd.func28, Tryd.ntmps28
  go_wp2_with (first | rw [← E1.out, ← E2.out, HS.out])
  clear E1 E2 HS hc
  go_loopw [5, 6] (fun vo vk wr => Below w2.heap.size w2 wr ∧ ∃ k : Nat, k ≤ n ∧ vk = .int .i64 k ∧ OwnI wr w2.heap.size vo (wh P c k)) (fun _ vk _ => n - (intOf vk).toNat)
  case atStart => exact ⟨Below.refl _ _, 0, Nat.zero_le _, rfl, World.ownsRow_nil _ _ _ _⟩
  case round =>
    obtain ⟨hbel, k, hk, rfl, hown⟩ := hrel
    have HB : Hid _ := hbel
    have HO : Hid _ := hown
    have HLr : Hid (Lf wr ao n P) := HL.out.grow hbel
    have FR : Hid (Fam wr g 0 4 (wi c)) := F2.out.below hbel s2
    have hsr : g < wr.heap.size := Nat.lt_of_lt_of_le s2 hbel.size
    have hc := (two_below HC.out hbel (Nat.lt_trans s1 s2)).1
    clear hbel hown
    by_cases hkn : k < n
    · obtain ⟨b, o, rfl, hb, hC⟩ := HLr.out.lies (by omega)
      obtain ⟨c0, c1, c2, c3⟩ := hC.four hkn
      have hkI : (k : Int) < (n : Int) := by omega
      obtain ⟨d0, d1, d2, d3⟩ := c4 FR.out
      have HW : Hid _ := wh_succ P c k
      have hlen := wh_len P c k
      clear hC
      cases hs : sm (P k) c with
      | false =>
        rw [hs] at HW
        have HW' : Hid (wh P c (k + 1) = wh P c k) := by show _ = _; have := HW.out; simpa using this
        clear HW
        go_wp2_with fail
        go_quiet (fail)
        obtain ⟨w3, hw3⟩ : ∃ w3, w3 = wr.drewN nq := ⟨_, rfl⟩
        have HB3 : Hid (Below w2.heap.size w2 w3) := by rw [hw3]; exact below_drewN HB.out nq
        have O3 : w3.ownsRow w2.heap.size 3 1 u5 (wh P c k).length (pls (wh P c k)) := by rw [hw3]; exact HO.out
        rw [← hw3]
        have hsz : w2.heap.size ≤ w3.heap.size := HB3.out.size
        clear hw3 c0 c1 c2 c3 d0 d1 d2 d3 hc HO HB HLr FR
        try simp only [hs]
        go_wp2_with fail
        go_roundw
        case rel => exact ⟨HB3.out, k + 1, by omega, by go_num, by rw [HW'.out]; exact O3⟩
        case measure => simp [intOf]; omega
      | true =>
        rw [hs] at HW
        have HW' : Hid (wh P c (k + 1) = wh P c k ++ [k]) := by show _ = _; have := HW.out; simpa using this
        clear HW
        go_wp2_with fail
        go_quiet (fail)
        obtain ⟨w3, hw3⟩ : ∃ w3, w3 = wr.drewN nq := ⟨_, rfl⟩
        have HB3 : Hid (Below w2.heap.size w2 w3) := by rw [hw3]; exact below_drewN HB.out nq
        have O3 : w3.ownsRow w2.heap.size 3 1 u5 (wh P c k).length (pls (wh P c k)) := by rw [hw3]; exact HO.out
        rw [← hw3]
        have hsz : w2.heap.size ≤ w3.heap.size := HB3.out.size
        clear hw3 c0 c1 c2 c3 d0 d1 d2 d3 hc HO HB HLr FR
        try simp only [hs]
        go_wp2_with (first | (at_builtin; refine wpList_append_own _ rfl _ _ 39 rfl w2.heap.size 3 i0 (.int .i64 0) 1 8 Tryd.underlying39 hi hz0 hz1 hz2 rfl (by decide) _ _ _ rfl (O3.alloc _) ⟨w3.heap.size, 0, none⟩ 1 1 [.int .i64 (k : Int)] rfl rfl ?c1 ?c2 ?c3 ?c4 ?c5 ?_))
        case c1 =>
          intro j' u hj'
          match j', hj' with
          | 0, hj' => simp at hj'; subst hj'; simp [Addr.add]
        case c2 => intro u hu; simp at hu; subst hu; rfl
        case c3 => unfold maxLen; omega
        case c4 => omega
        case c5 => simp; omega
        · intro v' w4 hown' hgrow _
          have HR : Hid (Below w2.heap.size w2 w4) := grow_below hsz HB3.out O3 hgrow
          have HO4 : Hid (OwnI w4 w2.heap.size v' (wh P c (k + 1))) := by show OwnI _ _ _ _; unfold OwnI; rw [HW'.out, List.length_append, pls, List.map_append]; exact hown'
          clear hown' hgrow O3 HB3
          go_wp2_with fail
          go_roundw
          case rel => exact ⟨HR.out, k + 1, by omega, by go_num, HO4.out⟩
          case measure => simp [intOf]; omega
    · obtain rfl : k = n := by omega
      obtain ⟨bo, d, rfl, hI⟩ := ownI_is HO.out
      have HI : Hid (Is wr bo (wh P c k)) := hI
      have BR : Hid (Below w.heap.size w wr) := B2.out.trans (HB.out.mono B2.out.size)
      clear hI HO
      go_wp2_with fail
      go_ret
      exact ⟨⟨bo, d, rfl, HI.out⟩, BR.out⟩

/-- Are two rows of places the same? -/
def eqi (L M : List Nat) : Bool := decide (L = M)

set_option maxHeartbeats 1000000 in
theorem places_any (L M : List Nat) (d e' : Nat) (ao bo : Option Addr) (w : World) (hl : Is w ao L) (hm : Is w bo M) (hL : L.length ≤ 4398046511104) (hM : M.length ≤ 4398046511104) :
    Calls Tryd.prog 26 #[.slice ao L.length d, .slice bo M.length e'] w fun e w' => e = .returned (.bool (eqi L M)) ∧ Below w.heap.size w w' := by
  have HL : Hid _ := hl
  have HM : Hid _ := hm
  obtain ⟨n, hnL⟩ : ∃ n, L.length = n := ⟨_, rfl⟩
  obtain ⟨m, hmM⟩ : ∃ m, M.length = m := ⟨_, rfl⟩
  have HN : Hid _ := hnL
  have HM' : Hid _ := hmM
  rw [hnL, hmM]
  rw [hnL] at hL
  rw [hmM] at hM
  clear hl hm hnL hmM
  by_cases he : n = m
  · subst he
    go_enter Tryd.func26, Tryd.ntmps26
    go_wp2_with fail
    go_loopw [5] (fun vk wr => Below w.heap.size w wr ∧ ∃ k : Nat, k ≤ n ∧ vk = .int .i64 k ∧ ∀ t, t < k → L[t]? = M[t]?) (fun vk _ => n - (intOf vk).toNat)
    case atStart => exact ⟨Below.refl _ _, 0, Nat.zero_le _, rfl, fun t ht => by omega⟩
    case round =>
      obtain ⟨hbel, k, hk, rfl, hall⟩ := hrel
      have HB : Hid _ := hbel
      have HA : Hid _ := hall
      have HLr : Hid (Is wr ao L) := Is.grow HL.out hbel
      have HMr : Hid (Is wr bo M) := Is.grow HM.out hbel
      clear hbel hall
      by_cases hkn : k < n
      · have h1 : k < L.length := by rw [HN.out]; exact hkn
        have h2 : k < M.length := by rw [HM'.out]; exact hkn
        obtain ⟨b, rfl, hb, hC⟩ := HLr.out (by omega)
        obtain ⟨b', rfl, hb', hD⟩ := HMr.out (by omega)
        have c0 := hC k h1
        have d0 := hD k h2
        have HEq : Hid (L[k]? = some L[k] ∧ M[k]? = some M[k]) := ⟨List.getElem?_eq_getElem h1, List.getElem?_eq_getElem h2⟩
        have HNe : Hid (¬ L[k] = M[k] → L ≠ M) := fun h e => h (by subst e; rfl)
        have hkI : (k : Int) < (n : Int) := by omega
        clear hC hD
        generalize L[k] = x at *
        generalize M[k] = y at *
        go_wp2_with fail
        go_quiet (fail)
        have HB3 : Hid (Below w.heap.size w (wr.drewN nq)) := below_drewN HB.out nq
        by_cases hs : x = y
        · have HS : Hid (∀ t, t < k + 1 → L[t]? = M[t]?) := fun t ht => by
            by_cases e : t = k
            · subst e; rw [HEq.out.1, HEq.out.2, hs]
            · exact HA.out t (by omega)
          subst hs
          go_wp2_with fail
          go_roundw
          case rel => exact ⟨HB3.out, k + 1, by omega, by go_num, HS.out⟩
          case measure => simp [intOf]; omega
        · have HS : Hid (eqi L M = false) := decide_eq_false (HNe.out hs)
          have hs2 : ¬ (x : Int) = (y : Int) := by omega
          go_wp2_with fail
          go_ret
          exact ⟨by rw [HS.out]; rfl, HB3.out⟩
      · obtain rfl : k = n := by omega
        have HY : Hid (eqi L M = true) := decide_eq_true (List.ext_getElem? (fun i => by
          by_cases hi : i < k
          · exact HA.out i hi
          · rw [List.getElem?_eq_none (by rw [HN.out]; omega), List.getElem?_eq_none (by rw [HM'.out]; omega)]))
        go_wp2_with fail
        go_ret
        exact ⟨by rw [HY.out]; rfl, HB.out⟩
  · have HR : Hid (eqi L M = false) := decide_eq_false (fun e => he (by rw [← HN.out, ← HM'.out, e]))
    have h1 : ¬ (n : Int) = (m : Int) := by omega
    go_enter Tryd.func26, Tryd.ntmps26
    go_wp2_with fail
    go_ret
    exact ⟨by rw [HR.out]; rfl, Below.refl _ _⟩

end Cls
end Go.Proofs.YtcohcdebbkfdfaaDoor
