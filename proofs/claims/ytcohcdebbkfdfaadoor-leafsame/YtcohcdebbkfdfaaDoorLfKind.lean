/- Contract of leaf.Kinds. -/
import Derived.Test.YtcohcdebbkfdfaaDoorLfMap
namespace Go.Proofs.YtcohcdebbkfdfaaDoor
open Go.RowKit Go.Maps
namespace Cls

theorem map_below {w w' : World} {P : Program} {k : TypeId} {R : Value → Option (DataW Unit × List MemPlace)} {b n C : Nat} {D : DataW Unit} (h : w.ownsMap P k R b n D) (hb : Below C w w') (hC : b < C) : w'.ownsMap P k R b n D := by
  obtain ⟨es, clock, h1, h2⟩ := h
  exact ⟨es, clock, (hb.block b hC).trans h1, h2⟩

theorem owns_grown {w w' : World} {B n size g : Nat} {e : TypeId} {v : Value} {xs : List Value} (h : w.ownsRow B e size v n xs) (hg : w.grownBy w' (some g)) (hB : g < B) : w'.ownsRow B e size v n xs := by
  obtain ⟨hl, h | ⟨g', cap, cur, hv, hg', hbk, hc, hm, hs, ht⟩⟩ := h
  · exact ⟨hl, Or.inl h⟩
  · have hlt : g' < w.heap.size := by
      rcases Nat.lt_or_ge g' w.heap.size with h0 | h0
      · exact h0
      · rw [Array.getElem?_eq_none h0] at hbk; cases hbk
    exact ⟨hl, Or.inr ⟨g', cap, cur, hv, hg', by rw [hg.block g' hlt (by simp; omega)]; exact hbk, hc, hm, hs, ht⟩⟩

theorem owns_mono {w : World} {B C n size : Nat} {e : TypeId} {v : Value} {xs : List Value} (h : w.ownsRow B e size v n xs) (hC : C ≤ B) : w.ownsRow C e size v n xs := by
  obtain ⟨hl, h | ⟨g, cap, cur, hv, hg, r⟩⟩ := h
  · exact ⟨hl, Or.inl h⟩
  · exact ⟨hl, Or.inr ⟨g, cap, cur, hv, by omega, r⟩⟩

theorem owns_apart {w : World} {B g n size : Nat} {e : TypeId} {v : Value} {xs : List Value} (h : w.ownsRow B e size v n xs) (hB : g < B) : some g ≠ v.ownBlock := by
  obtain ⟨_, ⟨e, _⟩ | ⟨g', cap, cur, hv, hg', _⟩⟩ := h
  · subst e; simp [Value.ownBlock]
  · subst hv; simp [Value.ownBlock]; omega

theorem fam_grown {w w' : World} {b n g : Nat} {G : Nat → Int} (h : Fam w b 0 n G) (hg : w.grownBy w' (some g)) (hb : b < w.heap.size) (hne : g ≠ b) : Fam w' b 0 n G := fun t ht => by
  have h := h t ht
  have hblk := hg.block b hb (by simp; omega)
  unfold World.cell? at h ⊢
  rw [hblk]
  exact h

theorem kd_fr {P : Nat → Nat → Bool} {n : Nat} (h : fr (P n) = true) : kd P (n + 1) = kd P n := kd_no (by rw [h]; rfl)

theorem kd_in {P : Nat → Nat → Bool} {n : Nat} (h : ((kd P n).any fun g => sm g (P n)) = true) : kd P (n + 1) = kd P n := kd_no (by rw [mt_end, h]; simp)

theorem kd_out {P : Nat → Nat → Bool} {n : Nat} (hf : fr (P n) = false) (h : ((kd P n).any fun g => sm g (P n)) = false) : kd P (n + 1) = kd P n ++ [P n] := kd_new (by rw [mt_end, h, hf]; rfl)

set_option maxHeartbeats 2000000 in
theorem kinds_core (P : Nat → Nat → Bool) (n cap : Nat) (ao : Option Addr) (K : Int) (w : World) (hl : Lf w ao n P) :
    Calls Tryd.prog 24 #[.agg #[.slice ao n cap, .int .i64 K]] w fun e w' => (∃ bo d, e = .returned (.slice bo (kd P n).length d) ∧ Lf w' bo (kd P n).length (at' (kd P n)) ∧ (1 ≤ (kd P n).length → ∃ g, bo = some ⟨g, 0, none⟩ ∧ w.heap.size ≤ g)) ∧ Below w.heap.size w w' := by
  obtain ⟨w1, b1⟩ := lbox w (.slice ao n cap) (.int .i64 K)
  obtain ⟨w2, e2⟩ : ∃ w2, w2 = w1.alloc (.map #[] 0) := ⟨_, rfl⟩
  have b2 : Below w1.heap.size w1 w2 := by rw [e2]; exact (Below.refl _ _).alloc (Nat.le_refl _) _
  have E1 : Hid _ := b1.eq
  have E2 : Hid _ := e2
  have B2 : Hid (Below w.heap.size w w2) := b1.bel.trans (b2.mono b1.bel.size)
  have s1 : w.heap.size < w1.heap.size := by have := b1.size; omega
  have HC : Hid (w2.cell? ⟨w.heap.size, 0, none⟩ = some (.slice ao n cap) ∧ w2.cell? ⟨w.heap.size, 1, none⟩ = some (.int .i64 K)) := two_below ⟨b1.c0, b1.c1⟩ b2 s1
  have hc := HC.out.1
  have HL : Hid (Lf w1 ao n P) := hl.grow b1.bel
  have B12 : Hid (Below w1.heap.size w1 w2) := b2
  have B1 : Hid (Below w.heap.size w w1) := b1.bel
  have HM : Hid (w2.ownsMap Tryd.prog 35 (plainElem Tryd.prog 4) w1.heap.size 0 (met (keyOf Tryd.prog 35) (kd P 0))) := by
    show World.ownsMap _ _ _ _ _ _ _
    rw [e2]
    exact World.ownsMap_made _ _ _ _
  have HS : Hid (w.heap.size + 1 = w1.heap.size) := b1.size.symm
  have s2 : w1.heap.size < w2.heap.size := HM.out.lt
  have hn := hl.small
  have hmm := @run_makeMap Tryd.prog
  obtain ⟨i0, hi, hz0, hz1, hz2⟩ := infoC
  clear b1 b2 hl e2
  go_enter Tryd.func24, Tryd.ntmps24
  go_wp2_with (first | rw [← E1.out, ← E2.out, HS.out])
  clear E1 E2 HS hc hmm
  go_loopw [3, 11] (fun vo vk wr => Below w1.heap.size w1 wr ∧ w2.heap.size ≤ wr.heap.size ∧ ∃ k : Nat, k ≤ n ∧ vk = .int .i64 k ∧ OwnC wr w2.heap.size vo (kd P k) ∧ wr.ownsMap Tryd.prog 35 (plainElem Tryd.prog 4) w1.heap.size k (met (keyOf Tryd.prog 35) (kd P k))) (fun _ vk _ => n - (intOf vk).toNat)
  case atStart => exact ⟨B12.out, Nat.le_refl _, 0, Nat.zero_le _, rfl, ownC_nil _ _, HM.out⟩
  case round =>
    obtain ⟨hbel, hsr, k, hk, rfl, hown, hmap⟩ := hrel
    have HB : Hid _ := hbel
    have HO : Hid _ := hown
    have HMr : Hid _ := hmap
    have HLr : Hid (Lf wr ao n P) := HL.out.grow hbel
    have hlen := kd_len P k
    have hgr : w1.heap.size < wr.heap.size := hmap.lt
    clear hbel hown hmap
    by_cases hkn : k < n
    · obtain ⟨b, o, rfl, hb, hC⟩ := HLr.out.lies (by omega)
      obtain ⟨c0, c1, c2, c3⟩ := hC.four hkn
      have hkI : (k : Int) < (n : Int) := by omega
      obtain ⟨w3, b3⟩ := box wr (P k)
      have E3 : Hid _ := b3.eq
      have HB3 : Hid (Below w1.heap.size w1 w3) := HB.out.trans (b3.bel.mono HB.out.size)
      have O3 : Hid (OwnC w3 w2.heap.size u3 (kd P k)) := owns_below HO.out b3.bel (Nat.le_refl _)
      have M3 : Hid _ := map_below HMr.out b3.bel hgr
      have F3 : Hid (Fam w3 wr.heap.size 0 4 (wi (P k))) := b3.fam
      obtain ⟨a0, a1, a2, a3⟩ := c4 b3.fam
      have cc : Hid _ := free_any (P k) w3
      have s3 : wr.heap.size < w3.heap.size := by have := b3.size; omega
      have hs3 : w2.heap.size ≤ w3.heap.size := by omega
      clear hC b3 HO HMr
      cases hf : fr (P k) with
      | true =>
        rw [hf] at cc
        have HK : Hid _ := kd_fr hf
        go_wp2_with (first | rw [← E3.out])
        refine Calls.mono (Hid.out cc) ?_; rintro e w4 ⟨rfl, b4⟩
        have HB4 : Hid (Below w1.heap.size w1 w4) := HB3.out.trans (b4.mono HB3.out.size)
        have O4 : Hid (OwnC w4 w2.heap.size u3 (kd P k)) := owns_below O3.out b4 (Nat.le_refl _)
        have M4 : Hid (w4.ownsMap Tryd.prog 35 (plainElem Tryd.prog 4) w1.heap.size (k + 1) (met (keyOf Tryd.prog 35) (kd P k))) := (map_below M3.out b4 (by omega)).mono (Nat.le_succ _)
        have hs4 : w2.heap.size ≤ w4.heap.size := Nat.le_trans hs3 b4.size
        clear b4 O3 M3 a0 a1 a2 a3
        go_wp2_with fail
        go_roundw
        case rel => exact ⟨HB4.out, hs4, k + 1, by omega, by go_num, by rw [HK.out]; exact O4.out, by rw [HK.out]; exact M4.out⟩
        case measure => simp [intOf]; omega
      | false =>
        rw [hf] at cc
        go_wp2_with (first | rw [← E3.out])
        refine Calls.mono (Hid.out cc) ?_; rintro e w4 ⟨rfl, b4⟩
        have HB4 : Hid (Below w1.heap.size w1 w4) := HB3.out.trans (b4.mono HB3.out.size)
        have O4 : Hid (OwnC w4 w2.heap.size u3 (kd P k)) := owns_below O3.out b4 (Nat.le_refl _)
        have M4 : w4.ownsMap Tryd.prog 35 (plainElem Tryd.prog 4) w1.heap.size k (met (keyOf Tryd.prog 35) (kd P k)) := map_below M3.out b4 (by omega)
        have hs4 : w2.heap.size ≤ w4.heap.size := Nat.le_trans hs3 b4.size
        have F4 : Hid (Fam w4 wr.heap.size 0 4 (wi (P k))) := Fam.below F3.out b4 s3
        have s4 : wr.heap.size < w4.heap.size := Nat.lt_of_lt_of_le s3 b4.size
        have hlook := met_look M4 (P k)
        clear b4 O3 M3 a0 a1 a2 a3
        obtain ⟨a0, a1, a2, a3⟩ := c4 F4.out
        cases hm : ((kd P k).any fun g => sm g (P k)) with
        | true =>
          rw [hm] at hlook
          have HK : Hid _ := kd_in hm
          have HM4 : Hid (w4.ownsMap Tryd.prog 35 (plainElem Tryd.prog 4) w1.heap.size (k + 1) (met (keyOf Tryd.prog 35) (kd P k))) := M4.mono (Nat.le_succ _)
          clear M4
          go_wp2_with fail
          go_roundw
          case rel => exact ⟨HB4.out, hs4, k + 1, by omega, by go_num, by rw [HK.out]; exact O4.out, by rw [HK.out]; exact HM4.out⟩
          case measure => simp [intOf]; omega
        | false =>
          rw [hm] at hlook
          have HK : Hid _ := kd_out hf hm
          have hkey := kl_of (P k)
          have HMS : Hid _ := met_snoc (kd P k) (P k)
          go_wp2_with (first | (at_mapUpdate; refine wpList_mapUpdate_own _ rfl _ _ _ 50 rfl 35 4 lawK Tryd.underlying50 _ w1.heap.size k _ rfl M4 (by unfold maxLen; omega) _ _ _ rfl rfl hkey _ [] (plainElem_bool Tryd.underlying4 true) ?_; intro w5 hown5 hgrow5; have HB5 : Hid (Below w1.heap.size w1 w5) := HB4.out.grown hgrow5 HB4.out.size (fun j hj => by cases hj; exact Nat.le_refl _); have O5 : w5.ownsRow w2.heap.size 35 4 u3 (kd P k).length (cls (kd P k)) := owns_grown O4.out hgrow5 s2; have HM5 : Hid (w5.ownsMap Tryd.prog 35 (plainElem Tryd.prog 4) w1.heap.size (k + 1) ((met (keyOf Tryd.prog 35) (kd P k)).put (kl (keyOf Tryd.prog 35) (P k)) (.lit (.bool true)))) := hown5; have hs5 : w2.heap.size ≤ w5.heap.size := Nat.le_trans hs4 hgrow5.size; have f5 : Fam w5 wr.heap.size 0 4 (wi (P k)) := fam_grown F4.out hgrow5 s4 (by omega); clear hown5 hgrow5 M4 a0 a1 a2 a3 hlook; obtain ⟨a0, a1, a2, a3⟩ := c4 f5; clear f5) | (at_builtin; refine wpList_append_own _ rfl _ _ 22 rfl w2.heap.size 35 i0 (.agg #[.int .u64 0, .int .u64 0, .int .u64 0, .int .u64 0]) 4 32 Tryd.underlying22 hi hz0 hz1 hz2 rfl (by decide) _ _ _ rfl (O5.alloc _) ⟨w5.heap.size, 0, none⟩ 1 1 (cls [P k]) rfl rfl ?c1 ?c2 ?c3 ?c4 ?c5 ?_))
          case c1 => first | exact new4 _ _ | exact fun _ _ h => h
          case c2 => exact plain4 _
          case c3 => unfold maxLen; omega
          case c4 => omega
          case c5 => first | omega | (simp; omega)
          · intro v' w6 hown' hgrow _
            have hg1 : w1.heap.size ≤ w5.heap.size := HB5.out.size
            have HR : Hid (Below w1.heap.size w1 w6) := grow_below hg1 HB5.out (owns_mono O5 (by omega)) hgrow
            have HO6 : Hid (OwnC w6 w2.heap.size v' (kd P (k + 1))) := by show OwnC _ _ _ _; unfold OwnC; rw [HK.out, cls_append, List.length_append]; exact hown'
            have HM6 : Hid (w6.ownsMap Tryd.prog 35 (plainElem Tryd.prog 4) w1.heap.size (k + 1) (met (keyOf Tryd.prog 35) (kd P (k + 1)))) := by
              show World.ownsMap _ _ _ _ _ _ _
              rw [HK.out, HMS.out]
              exact (HM5.out.alloc _).kept hgrow (owns_apart O5 s2)
            have hs6 : w2.heap.size ≤ w6.heap.size := Nat.le_trans (show w2.heap.size ≤ (w5.heap.push _).size by simp; omega) hgrow.size
            clear hown' hgrow O5 HB5
            go_wp2_with fail
            go_roundw
            case rel => exact ⟨HR.out, hs6, k + 1, by omega, by go_num, HO6.out, HM6.out⟩
            case measure => simp [intOf]; omega
    · obtain rfl : k = n := by omega
      have hz := fun (h : 1 ≤ (kd P k).length) => owns_cells (show World.ownsRow _ _ _ _ _ _ _ from HO.out) h
      obtain ⟨bo, d, rfl, hI⟩ := ownC_lf HO.out (by omega)
      have HI : Hid (Lf wr bo (kd P k).length (at' (kd P k)) ∧ (1 ≤ (kd P k).length → ∃ g, bo = some ⟨g, 0, none⟩ ∧ w.heap.size ≤ g)) := ⟨hI, fun h => by
        obtain ⟨g, cap, he, _, hg, _⟩ := hz h
        exact ⟨g, by injection he, by omega⟩⟩
      clear hz
      have BR : Hid (Below w.heap.size w wr) := B1.out.trans (HB.out.mono B1.out.size)
      clear hI HO
      go_wp2_with fail
      go_ret
      exact ⟨⟨bo, d, rfl, HI.out⟩, BR.out⟩

theorem kinds_any (P : Nat → Nat → Bool) (n cap : Nat) (ao : Option Addr) (K : Int) (w : World) (hl : Lf w ao n P) :
    Calls Tryd.prog 24 #[.agg #[.slice ao n cap, .int .i64 K]] w fun e w' => (∃ bo d, e = .returned (.slice bo (kd P n).length d) ∧ Lf w' bo (kd P n).length (at' (kd P n))) ∧ Below w.heap.size w w' :=
  (kinds_core P n cap ao K w hl).mono (by rintro e w' ⟨⟨bo, d, rfl, hk, _⟩, hb⟩; exact ⟨⟨bo, d, rfl, hk⟩, hb⟩)

end Cls
end Go.Proofs.YtcohcdebbkfdfaaDoor
