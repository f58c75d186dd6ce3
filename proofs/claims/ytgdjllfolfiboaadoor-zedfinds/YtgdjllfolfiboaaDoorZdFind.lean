/- Contracts of zed.Find, and of the document's Find. -/
import Derived.Test.YtgdjllfolfiboaaDoorZdRows
namespace Go.Proofs.YtgdjllfolfiboaaDoor
open Go.RowKit
namespace Cls

/-- Where p stands in t. -/
def fdl (p t : ByteArray) : List Nat := if p.size = 0 then [] else fds p t (t.size + 1 - p.size)

theorem fds_zero (p t : ByteArray) : fds p t 0 = [] := rfl

theorem fds_len (p t : ByteArray) (n : Nat) : (fds p t n).length ≤ n := by
  have := List.length_filter_le (fun i => decide (i + p.size ≤ t.size) && (List.range p.size).all fun k => byt p k == byt t (i + k)) (List.range n)
  rw [List.length_range] at this
  exact this

theorem fds_yes {p t : ByteArray} {k : Nat} (h : std p t k) : fds p t (k + 1) = fds p t k ++ [k] := fds_succ p t k true (by simp [h])

theorem fds_no {p t : ByteArray} {k : Nat} (h : ¬ std p t k) : fds p t (k + 1) = fds p t k := fds_succ p t k false (by simp [h])

theorem fdl_len (p t : ByteArray) : (fdl p t).length ≤ t.size := by
  unfold fdl
  split
  · exact Nat.zero_le _
  · have := fds_len p t (t.size + 1 - p.size); omega

theorem fdl_yes {p t : ByteArray} (h : 0 < p.size) : fdl p t = fds p t (t.size + 1 - p.size) := if_neg (by omega)

theorem fdl_no {p t : ByteArray} (h : p.size = 0) : fdl p t = [] := if_pos h

theorem told_nil (w : World) : Told w [] (.returned (.slice none 0 0)) w := ⟨⟨none, 0, rfl, fun h => absurd h (by simp), fun h => absurd h (by simp), Nat.le_refl _⟩, Below.refl _ _⟩

/-- A part of a text is p just where p stands. -/
theorem ext_std {p t : ByteArray} {k : Nat} (h : k + p.size ≤ t.size) : t.extract k (k + p.size) = p ↔ std p t k := by
  have hsz : (t.extract k (k + p.size)).size = p.size := by rw [ByteArray.size_extract]; omega
  constructor
  · intro e
    refine ⟨h, fun j hj => ?_⟩
    have hj2 : j < (t.extract k (k + p.size)).size := by omega
    have : (t.extract k (k + p.size))[j]'hj2 = p[j]'hj := by simp only [e]
    rw [byt_at p j hj, byt_at t (k + j) (by omega), ← this, ByteArray.getElem_extract]
  · rintro ⟨_, hs⟩
    apply ByteArray.ext
    apply Array.ext
    · exact hsz
    · intro j h1 h2
      have hj : j < p.size := h2
      have hj2 : j < (t.extract k (k + p.size)).size := by omega
      have := hs j hj
      rw [byt_at p j hj, byt_at t (k + j) (by omega)] at this
      have e : (t.extract k (k + p.size))[j]'hj2 = p[j]'hj := by
        rw [ByteArray.getElem_extract]
        exact UInt8.toNat_inj.1 this.symm
      exact e

theorem ba_nil {p : ByteArray} (h : p.size = 0) : p = ⟨#[]⟩ := by
  apply ByteArray.ext
  exact Array.eq_empty_of_size_eq_zero h

theorem ba_full {p : ByteArray} (h : 0 < p.size) : p.toList.isEmpty = false := by
  rw [ByteArray.toList_eq, List.isEmpty_eq_false_iff]
  intro e
  have h2 : p.data.toList.length = p.size := rfl
  rw [e] at h2
  rw [← h2] at h
  exact absurd h (by decide)

theorem ba_eq (a b : ByteArray) : (a.toList == b.toList) = true ↔ a = b := by
  rw [ByteArray.toList_eq, ByteArray.toList_eq, beq_iff_eq]
  constructor
  · intro h
    apply ByteArray.ext
    exact Array.toList_inj.1 h
  · intro h; rw [h]

theorem ownsRow_mono {W : World} {B C n : Nat} {e : TypeId} {v : Value} {L : List Value} (h : W.ownsRow B e 1 v n L) (hC : C ≤ B) : W.ownsRow C e 1 v n L := by
  refine ⟨h.1, ?_⟩
  rcases h.2 with h | ⟨g, cap, cur, rfl, hb, r⟩
  · exact .inl h
  · exact .inr ⟨g, cap, cur, rfl, Nat.le_trans hC hb, r⟩

theorem Eye.below {B : Nat} {w w' : World} {be br bs bp bt : Nat} {p t : ByteArray} {rv : Value} {st en : Nat} (h : Eye w be br bs bp bt p t rv st en) (k : Below B w w') (hl : be < B ∧ br < B ∧ bs < B ∧ bp < B ∧ bt < B) : Eye w' be br bs bp bt p t rv st en :=
  ⟨(k.cell (p := ⟨be, 0, none⟩) hl.1).trans h.ce, (k.cell (p := ⟨br, 0, none⟩) hl.2.1).trans h.cr, (k.cell (p := ⟨bs, 0, none⟩) hl.2.2.1).trans h.cs, (k.cell (p := ⟨bp, 0, none⟩) hl.2.2.2.1).trans h.cp, (k.cell (p := ⟨bt, 0, none⟩) hl.2.2.2.2).trans h.ct, (k.frozen (p := ⟨be, 0, none⟩) hl.1).trans h.fe, (k.frozen (p := ⟨bs, 0, none⟩) hl.2.2.1).trans h.fs, h.d, h.sn⟩

set_option maxHeartbeats 2000000 in
theorem refFind09_any (p t : ByteArray) (hp : p.size ≤ 1000000) (ht : t.size ≤ 1000000) (w : World) :
    Calls Tryd.prog 14 #[.string p, .string t] w (Told w (fdl p t)) := by
  by_cases h0 : 0 < p.size
  · obtain ⟨i0, hi, hz0, hz1, hz2⟩ := infoI
    have hnb := ba_full h0
    rw [fdl_yes h0]
    obtain ⟨N, hN⟩ : ∃ N, t.size + 1 - p.size = N := ⟨_, rfl⟩
    rw [hN]
    go_enter Tryd.func14, Tryd.ntmps14
    go_wp2_with fail
    go_loopw [5, 6] (fun vo vk wr => Below w.heap.size w wr ∧ ∃ k : Nat, k ≤ N ∧ vk = .int .i64 k ∧ OwnI wr w.heap.size vo (fds p t k)) (fun _ vk _ => N - (intOf vk).toNat)
    case atStart => exact ⟨Below.refl _ _, 0, Nat.zero_le _, rfl, by rw [fds_zero]; exact World.ownsRow_nil _ _ _ _⟩
    case round =>
      obtain ⟨hbel, k, hk, rfl, hown⟩ := hrel
      have HB3 : Hid _ := hbel
      have HO : Hid (wr.ownsRow w.heap.size 3 1 u5 (fds p t k).length (pls (fds p t k))) := hown
      have hlen := fds_len p t k
      have hsz : w.heap.size ≤ wr.heap.size := hbel.size
      clear hbel hown
      by_cases hkn : k < N
      · have hkp : k + p.size ≤ t.size := by omega
        have hkI : (k : Int) + (p.size : Int) ≤ (t.size : Int) := by omega
        obtain ⟨z, hz⟩ : ∃ z, k + p.size = z := ⟨_, rfl⟩
        have hzI : (k : Int) + (p.size : Int) = (z : Int) := by omega
        have hES := ext_std hkp
        rw [hz] at hES hkp
        clear hkI
        have hzT : (z : Int) ≤ (t.size : Int) := by omega
        by_cases hst : std p t k
        · have HW' : Hid _ := fds_yes hst
          have hbe : ((t.extract k z).toList == p.toList) = true := (ba_eq _ _).2 (hES.2 hst)
          have O3 := HO.out
          clear HO hES hst hz
          obtain ⟨w3, e3⟩ : ∃ w3, w3 = wr := ⟨_, rfl⟩
          subst e3
          go_wp2_with (first | (at_builtin; refine wpList_append_own _ rfl _ _ 24 rfl w.heap.size 3 i0 (.int .i64 0) 1 8 Tryd.underlying24 hi hz0 hz1 hz2 rfl (by decide) _ _ _ rfl (O3.alloc _) ⟨w3.heap.size, 0, none⟩ 1 1 [.int .i64 ((k : Nat) : Int)] rfl rfl ?c1 ?c2 ?c3 ?c4 ?c5 ?_))
          case c1 =>
            intro j' u hj'
            match j', hj' with
            | 0, hj' => simp at hj'; subst hj'; simp [Addr.add]
          case c2 => intro u hu; simp at hu; subst hu; rfl
          case c3 => unfold maxLen; omega
          case c4 => omega
          case c5 => simp; omega
          · intro v' w4 hown' hgrow _
            have HR : Hid (Below w.heap.size w w4) := grow_below hsz HB3.out O3 hgrow
            have HO4 : Hid (OwnI w4 w.heap.size v' (fds p t (k + 1))) := by show OwnI _ _ _ _; unfold OwnI; rw [HW'.out, List.length_append, pls, List.map_append]; exact hown'
            clear hown' hgrow O3 HB3
            go_wp2_with fail
            go_roundw
            case rel => exact ⟨HR.out, k + 1, by omega, by go_num, HO4.out⟩
            case measure => simp [intOf]; omega
        · have HW' : Hid _ := fds_no hst
          have hbe : ((t.extract k z).toList == p.toList) = false := Bool.eq_false_iff.2 (fun e => hst (hES.1 ((ba_eq _ _).1 e)))
          clear hES hst hz
          go_wp2_with fail
          go_roundw
          case rel => exact ⟨HB3.out, k + 1, by omega, by go_num, by rw [HW'.out]; exact HO.out⟩
          case measure => simp [intOf]; omega
      · obtain rfl : k = N := by omega
        have hkI : ¬ (k : Int) + (p.size : Int) ≤ (t.size : Int) := by omega
        have HT : Hid (Told w (fds p t k) (.returned u5) wr) := told_of HO.out HB3.out
        obtain ⟨⟨bo, d, e, _⟩, _⟩ := HT.out
        cases e
        clear HO
        go_wp2_with fail
        go_ret
        exact HT.out
  · have hp0 : p.size = 0 := by omega
    rw [fdl_no hp0]
    obtain rfl := ba_nil hp0
    have HT : Hid _ := told_nil w
    clear hp hp0 h0
    go_enter Tryd.func14, Tryd.ntmps14
    go_wp2_with fail
    go_ret
    exact HT.out

/-- What stands between the rounds of zed.Find. -/
structure Fw (w wr : World) (B b be br bs bp bt : Nat) (p t : ByteArray) (k : Nat) (v : Value) : Prop where
  bel : Below w.heap.size w wr
  size : B ≤ wr.heap.size
  row : ∀ j, j < p.size → wr.cell? ⟨b, j, none⟩ = some (.int .i64 ((zr p j : Nat) : Int))
  own : OwnI wr B v (fds p t k)
  eye : ∃ st en d, Eye wr be br bs bp bt p t (.slice (some ⟨b, 0, none⟩) p.size d) st en ∧ st ≤ k

set_option maxHeartbeats 2000000 in
theorem find09_any (p t : ByteArray) (hp : p.size ≤ 1000000) (ht : t.size ≤ 1000000) (w : World) :
    Calls Tryd.prog 13 #[.string p, .string t] w (Told w (fdl p t)) := by
  by_cases h0 : 0 < p.size
  · obtain ⟨i0, hi, hz0, hz1, hz2⟩ := infoI
    have hnb := ba_full h0
    rw [fdl_yes h0]
    obtain ⟨N, hN⟩ : ∃ N, t.size + 1 - p.size = N := ⟨_, rfl⟩
    rw [hN]
    have C1 : Hid (Calls Tryd.prog 11 #[.string p] w fun e w' => ∃ b d, e = .returned (.slice (some ⟨b, 0, none⟩) p.size d) ∧ w.heap.size ≤ b ∧ b < w'.heap.size ∧ (∀ j, j < p.size → w'.cell? ⟨b, j, none⟩ = some (.int .i64 ((zr p j : Nat) : Int))) ∧ Below w.heap.size w w') := (rows_any p hp w).mono (by
      rintro e w' ⟨⟨bo, d, rfl, hi, hg, _⟩, hb⟩
      rw [rwl_len] at hg
      obtain ⟨g, rfl, hgl⟩ := hg h0
      obtain ⟨b, e, hlt, hc⟩ := hi (by rw [rwl_len]; exact h0)
      cases e
      refine ⟨g, d, by rw [rwl_len], hgl, hlt, fun j hj => ?_, hb⟩
      have := hc j (by rw [rwl_len]; exact hj)
      rw [rwl_at] at this
      exact this)
    go_enter Tryd.func13, Tryd.ntmps13
    go_wp2_with fail
    refine Calls.mono (Hid.out C1) ?_; rintro e w1 ⟨b, d, rfl, hb0, hb1, hrow, b1⟩
    have C2 : Hid _ := seer_any p t (some ⟨b, 0, none⟩) p.size d w1
    have HRow : Hid _ := hrow
    have B1 : Hid _ := b1
    clear hrow b1 C1
    go_wp2_with fail
    refine Calls.mono (Hid.out C2) ?_; rintro e w2 ⟨be, br, bs, bp, bt, rfl, hE, hlt, b2⟩
    have hs1 := B1.out.size
    have HD : Hid (w.heap.size ≤ b ∧ w.heap.size ≤ be ∧ w.heap.size ≤ bs ∧ b ≠ be ∧ b ≠ bs) := by show _ ∧ _; omega
    have HL : Hid ((be < w2.heap.size ∧ br < w2.heap.size ∧ bs < w2.heap.size ∧ bp < w2.heap.size ∧ bt < w2.heap.size) ∧ b < w2.heap.size ∧ w.heap.size ≤ w2.heap.size) := ⟨hE.lts, Nat.lt_of_lt_of_le hb1 b2.size, Nat.le_trans hs1 b2.size⟩
    have HR0 : Hid (Fw w w2 w2.heap.size b be br bs bp bt p t 0 (.slice none 0 0)) := ⟨B1.out.trans (b2.mono B1.out.size), Nat.le_refl _, fun j hj => (b2.cell (p := ⟨b, j, none⟩) hb1).trans (HRow.out j hj), by rw [fds_zero]; exact World.ownsRow_nil _ _ _ _, 0, 0, d, hE, Nat.le_refl _⟩
    clear hE hlt b2 C2 HRow B1 hb0 hb1 hs1
    obtain ⟨NI, hNI⟩ : ∃ NI : Int, (t.size : Int) - (p.size : Int) + 1 = NI := ⟨_, rfl⟩
    have hNb : NI ≤ (N : Int) ∧ (0 ≤ NI → NI = (N : Int)) ∧ (NI < 0 → N = 0) ∧ -1000001 ≤ NI := by omega
    obtain ⟨hN1, hN2, hN3, hN4⟩ := hNb
    have HN : Hid _ := hN
    have hN5 : N ≤ 1000001 := by omega
    clear hN
    go_wp2_with fail
    go_loopw [5, 21] (fun vo vk wr => ∃ k : Nat, k ≤ N ∧ vk = .int .i64 k ∧ Fw w wr w2.heap.size b be br bs bp bt p t k vo) (fun _ vk _ => N - (intOf vk).toNat)
    case atStart => exact ⟨0, Nat.zero_le _, rfl, HR0.out⟩
    case round =>
      obtain ⟨k, hk, rfl, hR⟩ := hrel
      have HR : Hid _ := hR
      clear hR HR0
      by_cases hkn : k < N
      · have hkI : (k : Int) < NI := by omega
        obtain ⟨st, en, d', hy, h1⟩ := HR.out.eye
        have hkt : k ≤ t.size := by have := HN.out; omega
        have CC : Hid _ := see_any p t hp ht k st en p.size d' b be br bs bp bt wr hkt h1 hy (Nat.le_refl _) hp (fun hen => HR.out.row (k - st) (by have := hy.sn.enp; have := hy.sn.le; omega))
        have H1 : Hid (st ≤ k) := h1
        have hlen := fds_len p t k
        clear hy h1
        go_wp2_with fail
        refine Calls.mono (Hid.out CC) ?_; rintro e w3 ⟨m, st', en', hzg, rfl, hy, hst, hw3⟩
        have HB3 : Hid (Below w.heap.size w w3) := HR.out.bel.trans (hw3.below (fun b' o e => by
          have := HD.out
          rcases e with e | e <;> omega))
        have hsz : w.heap.size ≤ w3.heap.size := HB3.out.size
        have HRow3 : Hid (∀ j, j < p.size → w3.cell? ⟨b, j, none⟩ = some (.int .i64 ((zr p j : Nat) : Int))) := fun j hj => (hw3.cell b j (fun e => by
          have := HD.out
          rcases e with e | e <;> omega)).trans (HR.out.row j hj)
        have HEy : Hid (∃ st en d, Eye w3 be br bs bp bt p t (.slice (some ⟨b, 0, none⟩) p.size d) st en ∧ st ≤ k + 1) := ⟨st', en', d', hy, by have := H1.out; omega⟩
        have O3 : w3.ownsRow w2.heap.size 3 1 u5 (fds p t k).length (pls (fds p t k)) := ownsRow_block HR.out.own (fun g eg hg => hw3.block g (fun o e => by
          have h5 := (ownsRow_at HR.out.own eg).1
          have h6 := HL.out
          rcases e with e | e <;> omega))
        have hsz2 : w2.heap.size ≤ w3.heap.size := by rw [hw3.size]; exact HR.out.size
        have hml := hzg.lp
        have HS3 : Hid (w2.heap.size ≤ w3.heap.size) := hsz2
        by_cases hmp : m = p.size
        · have hmpI : (m : Int) = (p.size : Int) := by omega
          have hmpB : ((m : Int) == (p.size : Int)) = true := by simpa using hmpI
          have HW' : Hid _ := fds_yes (hzg.std.1 hmp)
          clear hzg hy hst hw3 CC HR hmp
          go_wp2_with (first | (at_builtin; refine wpList_append_own _ rfl _ _ 24 rfl w2.heap.size 3 i0 (.int .i64 0) 1 8 Tryd.underlying24 hi hz0 hz1 hz2 rfl (by decide) _ _ _ rfl (O3.alloc _) ⟨w3.heap.size, 0, none⟩ 1 1 [.int .i64 ((k : Nat) : Int)] rfl rfl ?c1 ?c2 ?c3 ?c4 ?c5 ?_))
          case c1 =>
            intro j' u hj'
            match j', hj' with
            | 0, hj' => simp at hj'; subst hj'; simp [Addr.add]
          case c2 => intro u hu; simp at hu; subst hu; rfl
          case c3 => unfold maxLen; omega
          case c4 => omega
          case c5 => simp; omega
          · intro v' w4 hown' hgrow _
            have h34 : Below w2.heap.size w3 w4 := grow_below hsz2 (Below.refl _ _) O3 hgrow
            have HP : Hid (Fw w w4 w2.heap.size b be br bs bp bt p t (k + 1) v') := ⟨grow_below hsz HB3.out (ownsRow_mono O3 HL.out.2.2) hgrow, Nat.le_trans hsz2 h34.size, fun j hj => (h34.cell (p := ⟨b, j, none⟩) HL.out.2.1).trans (HRow3.out j hj), by show OwnI _ _ _ _; unfold OwnI; rw [HW'.out, List.length_append, pls, List.map_append]; exact hown', by
              obtain ⟨st, en, d, hy, h1⟩ := HEy.out
              exact ⟨st, en, d, hy.below h34 HL.out.1, h1⟩⟩
            clear hown' hgrow O3 HB3 h34
            go_wp2_with fail
            go_roundw
            case rel => exact ⟨k + 1, by omega, by go_num, HP.out⟩
            case measure => simp [intOf]; omega
        · have hmpB : ((m : Int) == (p.size : Int)) = false := by simp; omega
          have HW' : Hid _ := fds_no (fun h => hmp (hzg.std.2 h))
          have HP : Hid (Fw w w3 w2.heap.size b be br bs bp bt p t (k + 1) u5) := ⟨HB3.out, HS3.out, HRow3.out, by show OwnI _ _ _ _; unfold OwnI; rw [HW'.out]; exact O3, HEy.out⟩
          clear hzg hy hst hw3 CC HR O3
          go_wp2_with fail
          go_roundw
          case rel => exact ⟨k + 1, by omega, by go_num, HP.out⟩
          case measure => simp [intOf]; omega
      · obtain rfl : k = N := by omega
        have hkI : ¬ (k : Int) < NI := by omega
        have HT : Hid (Told w (fds p t k) (.returned u5) wr) := told_of (ownsRow_mono HR.out.own HL.out.2.2) HR.out.bel
        obtain ⟨⟨bo, d, e, _⟩, _⟩ := HT.out
        cases e
        clear HR
        go_wp2_with fail
        go_ret
        exact HT.out
  · have hp0 : p.size = 0 := by omega
    rw [fdl_no hp0]
    obtain rfl := ba_nil hp0
    have HT : Hid _ := told_nil w
    clear hp hp0 h0
    go_enter Tryd.func13, Tryd.ntmps13
    go_wp2_with fail
    go_ret
    exact HT.out

end Cls
end Go.Proofs.YtgdjllfolfiboaaDoor
