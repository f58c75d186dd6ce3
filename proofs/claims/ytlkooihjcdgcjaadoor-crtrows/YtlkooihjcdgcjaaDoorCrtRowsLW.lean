/- The walk of 'beaglelaw03.CrtRows': it answers true; nothing that was there is turned. For the statement's proof. -/
import Derived.OpenShut
import Derived.ProofKit
import Derived.Test.YtlkooihjcdgcjaaDoorCrtAlive
import Derived.Test.YtlkooihjcdgcjaaDoorCrtRowG
import Derived.Test.YtlkooihjcdgcjaaDoorTri
import Derived.Test.YtlkooihjcdgcjaaDoorSlices
import Derived.Deep.RegionLaw
namespace Go.Proofs.YtlkooihjcdgcjaaDoor.crtRows
open Go.ChangeShapes Go.WideShapes Go.ChangeAt Go.RowKit Res
set_option linter.unusedVariables false

def ln (i k : Nat) : Nat → Nat := fun j => if j < k then i + 1 else i
theorem r3_md (x : Int) (k : Nat) (hk : k < 3) : r3 (md 0 x) (md 1 x) (md 2 x) k = md k x := by
  match k, hk with
  | 0, _ => rfl
  | 1, _ => rfl
  | 2, _ => rfl
/-- The array of rows, and the box of the three residues. -/
structure With (v4 wr : World) (gl gp : Nat) (V : Nat → Value) (len : Nat → Nat) (D : Nat → Nat → Int) (P : Nat → Int) : Prop where
  tri : Tri v4 wr gl V len D
  fam : Fam wr gp 0 3 P
  lt : gp < wr.heap.size
  gt : gl < gp
  ap : ∀ j, j < 3 → (V j).ownBlock ≠ some gp
theorem With.step {v4 wr w1 : World} {gl gp i k g cap : Nat} {V : Nat → Value} {D : Nat → Nat → Int} {P : Nat → Int} {ob : Obj} {x : Int} (h : With v4 wr gl gp V (ln i k) D P) (hk : k < 3) (hx : x = D k i)
    (h1 : w1.ownsRow (gl + 1) 22 1 (.slice (some ⟨g, 0, none⟩) (i + 1) cap) (i + 1) (cellsOf (D k) i ++ [.int .u64 x])) (hg : (wr.alloc ob).grownBy w1 (V k).ownBlock) (hat : (V k).ownBlock = some g ∨ g = wr.heap.size + 1) :
    w1.cell? ⟨gl, k, none⟩ = some (V k) ∧ w1.frozen? ⟨gl, k, none⟩ = false ∧ With v4 (w1.setCell ⟨gl, k, none⟩ (.slice (some ⟨g, 0, none⟩) (i + 1) cap)) gl gp (fun j => if j = k then .slice (some ⟨g, 0, none⟩) (i + 1) cap else V j) (ln i (k + 1)) D P := by
  have hlt := h.tri.lt
  have hgp := h.lt
  have hsz := hg.size
  rw [size_alloc] at hsz
  have hkk : ln i k k = i := by simp [ln]
  have hne : some gl ≠ (V k).ownBlock := fun e => by
    have := own_lt (h.tri.own k hk) e.symm
    omega
  have hall : gl < (wr.alloc ob).heap.size := by rw [size_alloc]; omega
  have hallp : gp < (wr.alloc ob).heap.size := by rw [size_alloc]; omega
  refine ⟨?_, ?_, ?_⟩
  · rw [hg.cell_far ⟨gl, k, none⟩ hall hne, World.cell?_alloc_lt _ _ _ hlt]; exact h.tri.cell k hk
  · rw [hg.frozen_far ⟨gl, k, none⟩ hall hne, World.frozen?_alloc_past _ _ _ hlt]; exact h.tri.wrt k hk
  · have ht := h.tri.step (ob := ob) (x := x) (v' := .slice (some ⟨g, 0, none⟩) (i + 1) cap) hk (by rw [hkk]; exact hx) (by rw [hkk]; exact h1) hg hat rfl
    refine ⟨ht.congr (fun j hj => ?_), ?_, ?_, h.gt, ?_⟩
    · unfold ln
      by_cases e : j = k
      · subst e; simp
      · by_cases e2 : j < k
        · simp [e, e2, show j < k + 1 by omega]
        · simp [e, e2, show ¬ j < k + 1 by omega]
    · intro t htt
      rw [cell_setCell_ne _ _ _ _ _ _ (Or.inl (by have := h.gt; omega)), hg.cell_far ⟨gp, 0 + t, none⟩ hallp (fun e => h.ap k hk e.symm), World.cell?_alloc_lt _ _ _ hgp]
      exact h.fam t htt
    · show gp < (w1.setCell _ _).heap.size
      rw [((Wrote.refl (fun b _ => b = gl) w1).setCell rfl _).size]; omega
    · intro j hj
      by_cases e : j = k
      · subst e
        simp only [if_true]
        intro e2
        have e3 : g = gp := by simpa [Value.ownBlock] using e2
        rcases hat with e4 | e4
        · exact h.ap j hj (by rw [e4, e3])
        · omega
      · simp only [e, if_false]; exact h.ap j hj
set_option maxHeartbeats 2000000 in
theorem walk (sa : Option Addr) (n ca : Nat) (A : Nat → Int) (sb : Option Addr) (m cb : Nat) (B : Nat → Int) (sc : Option Addr) (l cc : Nat) (C : Nat → Int) (w : World) (hla : Sl w sa n ca A) (hlb : Sl w sb m cb B) (hlc : Sl w sc l cc C) (hT : Tab w) :
    Calls Tryd.prog 8 #[.slice sa n ca, .slice sb m cb, .slice sc l cc] w fun e w' => e = .returned (.bool true) ∧ Below w.heap.size w w' := by
  have al : Hid _ := alive_any
  have rb1 : n * 8 ≤ 140737488351232 := by have := hla.le; have := hla.room; omega
  have rb2 : m * 8 ≤ 140737488351232 := by have := hlb.le; have := hlb.room; omega
  have rb3 : l * 8 ≤ 140737488351232 := by have := hlc.le; have := hlc.room; omega
  by_cases big : 1000 < n ∨ 1000 < m ∨ 1000 < l
  · have c0 : Hid _ := al.out w hT
    clear hla hlb hlc hT
    by_cases h1 : 1000 < n
    · clear big
      go_enter Tryd.func8, Tryd.ntmps8
      go_wp2_with fail
      refine Calls.mono (Hid.out c0) ?_; rintro e v1 ⟨rfl, b1⟩
      have B1 : Hid _ := b1
      clear b1
      go_wp2_with fail
      go_ret
      exact ⟨rfl, B1.out⟩
    · by_cases h2 : 1000 < m
      · clear big
        go_enter Tryd.func8, Tryd.ntmps8
        go_wp2_with fail
        refine Calls.mono (Hid.out c0) ?_; rintro e v1 ⟨rfl, b1⟩
        have B1 : Hid _ := b1
        clear b1
        go_wp2_with fail
        go_ret
        exact ⟨rfl, B1.out⟩
      · have h3 : 1000 < l := by omega
        clear big
        go_enter Tryd.func8, Tryd.ntmps8
        go_wp2_with fail
        refine Calls.mono (Hid.out c0) ?_; rintro e v1 ⟨rfl, b1⟩
        have B1 : Hid _ := b1
        clear b1
        go_wp2_with fail
        go_ret
        exact ⟨rfl, B1.out⟩
  have hn : n ≤ 1000 := by omega
  have hm : m ≤ 1000 := by omega
  have hl : l ≤ 1000 := by omega
  clear big rb1 rb2 rb3
  obtain ⟨i0, hi, hz0, hz1, hz2⟩ := info_parts infoU
  obtain ⟨p, hp⟩ := ok_bool n m l (fun t => nm (A t) (B t) (C t))
  have la : Hid (Lies w sa n A) := hla.lies
  have lb : Hid (Lies w sb m B) := hlb.lies
  have lc : Hid (Lies w sc l C) := hlc.lies
  have hA0 := hla.lo
  have hA1 := hla.hi
  have c1 : Hid _ := rows_gen sa sb sc n m l ca cb cc (by omega) A B C hla.lo hlb.lo hlc.lo w hT hla.lies hlb.lies hlc.lies p hp
  have c2 : Hid _ := fun (v : World) (ha : Lies v sa n A) (hb : Lies v sb m B) (hc : Lies v sc l C) => refRows_gen sa sb sc n m l ca cb cc (by omega) A B C hla.lo hlb.lo hlc.lo v ha hb hc p hp
  have c3 : Hid _ := fun (w1 w2 : World) (B1 B2 : Nat) (vx vy : Value) => same_gen n (by omega) (fun t => nm (A t) (B t) (C t)) p w1 w2 B1 B2 vx vy
  have h0 := tab_lt hT
  clear hla hlb hlc hp
  go_enter Tryd.func8, Tryd.ntmps8
  go_wp2_with fail
  refine Calls.mono (Hid.out c1) ?_; rintro e v1 ⟨⟨vx, rfl, x1, x0⟩, b1⟩
  have T1 : Tab v1 := hT.below b1 h0
  have B1 : Hid (Below w.heap.size w v1) := b1
  have c2' : Hid _ := c2.out v1 (Lies.below la.out b1 (Nat.le_refl _)) (Lies.below lb.out b1 (Nat.le_refl _)) (Lies.below lc.out b1 (Nat.le_refl _))
  have X1 : Hid _ := x1
  have X0 : Hid _ := x0
  clear b1 c1 c2 x1 x0
  go_wp2_with fail
  refine Calls.mono (Hid.out c2') ?_; rintro e v2 ⟨⟨vy, rfl, y1, y0⟩, b2⟩
  have T2 : Tab v2 := T1.below b2 (tab_lt T1)
  have B2 : Hid (Below w.heap.size w v2) := B1.out.trans (b2.mono B1.out.size)
  have c3' : Hid _ := c3.out v1 v2 w.heap.size v1.heap.size vx vy X1.out X0.out b2 y1 y0
  clear b2 c2' c3 X1 X0 y1 y0 B1
  go_wp2_with fail
  refine Calls.mono (Hid.out c3') ?_; rintro e v3 ⟨rfl, q3, hv3⟩
  have T3 : Tab v3 := by rw [hv3]; exact T2
  have B3 : Hid (Below w.heap.size w v3) := by show Below _ _ _; rw [hv3]; exact below_drewN B2.out q3
  have z3 : w.heap.size ≤ v3.heap.size := B3.out.size
  clear hv3 c3' B2 T2 T1
  obtain ⟨v4, e4⟩ : ∃ v4, v4 = v3.alloc (.cells #[.slice none 0 0, .slice none 0 0, .slice none 0 0] 39) := ⟨_, rfl⟩
  have E4 : Hid _ := e4
  have T4 : Tab v4 := by rw [e4]; exact T3.alloc _
  have B4 : Hid (Below w.heap.size w v4) := by show Below _ _ _; rw [e4]; exact B3.out.alloc z3 _
  obtain ⟨D, hD⟩ : ∃ D : Nat → Nat → Int, ∀ j t, D j t = md j (A t) := ⟨_, fun _ _ => rfl⟩
  have R4 : Hid (Tri v4 v4 v3.heap.size (fun _ => .slice none 0 0) (ln 0 0) D) := (Tri.start v3 39 D v4 e4).congr (fun j _ => by simp [ln])
  have HD : Hid _ := hD
  have L4 : Hid (Lies v4 sa n A) := Lies.below la.out B4.out (Nat.le_refl _)
  clear e4 hD lb lc
  obtain ⟨gl, hgl⟩ : ∃ g, g = v3.heap.size := ⟨_, rfl⟩
  have G3 : Hid (v3.heap.size = gl) := hgl.symm
  rw [← hgl] at R4 z3
  have h0' : 0 < gl := by omega
  clear hgl
  go_wp2_with fail
  rw [← E4.out, G3.out]
  clear E4 G3
  go_loopw [57] (fun vi wr => ∃ i : Nat, i ≤ n ∧ vi = .int .i64 i ∧ ∃ V, Tri v4 wr gl V (ln i 0) D) (fun vi _ => n - (intOf vi).toNat)
  case atStart => exact ⟨0, Nat.zero_le _, rfl, _, R4.out⟩
  case round =>
    rename World => wo
    obtain ⟨i, hile, rfl, V, hV⟩ := hrel
    have To : Tab wo := T4.below hV.bel h0'
    have HV : Hid (Tri v4 wo gl V (ln i 0) D) := hV
    have so := hV.lt
    by_cases hin : i < n
    · obtain ⟨b, o, rfl, hf⟩ := L4.out (by omega)
      have hbl : b < w.heap.size := by
        obtain ⟨b', o', e', hf'⟩ := la.out (by omega)
        injection e' with e'; injection e' with e1 _ _
        rw [e1]; exact Fam.lt hf' (by omega)
      have hca : wo.cell? ⟨b, o + i, none⟩ = some (.int .u64 (A i)) := (Fam.below hf hV.bel (by omega)) i hin
      have hAi := hA0 i
      have c5 : Hid _ := parts_any (A i) hAi wo To
      clear hV hf
      go_wp2_with fail
      refine Calls.mono (Hid.out c5) ?_; rintro e v5 ⟨rfl, b5⟩
      have T5 : Tab v5 := To.below b5 (tab_lt To)
      have V5 : Hid (Tri v4 v5 gl V (ln i 0) D) := Tri.below HV.out b5
      have s5 : gl < v5.heap.size := Nat.lt_of_lt_of_le so b5.size
      clear b5 c5 HV
      obtain ⟨v6, x6⟩ := box3 v5 (md 0 (A i)) (md 1 (A i)) (md 2 (A i)) 23
      have E6 : Hid _ := x6.eq
      have T6 := x6.tab T5
      have W6 : Hid (With v4 v6 gl v5.heap.size V (ln i 0) D (r3 (md 0 (A i)) (md 1 (A i)) (md 2 (A i)))) := ⟨Tri.below V5.out x6.bel, x6.fam, by have := x6.size; omega, s5, fun j hj e => by have := own_lt (Tri.own V5.out j hj) e; omega⟩
      clear x6 V5 T5
      obtain ⟨gp, hgp⟩ : ∃ g, g = v5.heap.size := ⟨_, rfl⟩
      have G5 : Hid (v5.heap.size = gp) := hgp.symm
      rw [← hgp] at W6
      clear hgp
      obtain ⟨P, hP⟩ : ∃ P, P = r3 (md 0 (A i)) (md 1 (A i)) (md 2 (A i)) := ⟨_, rfl⟩
      have HP : Hid (∀ k, k < 3 → P k = D k i) := fun k hk => by rw [hP, HD.out]; exact r3_md _ _ hk
      rw [← hP] at W6
      clear hP
      go_wp2_with fail
      rw [← E6.out, G5.out]
      clear E6 G5
      go_loopw [63] (fun vk wr => ∃ k : Nat, k ≤ 3 ∧ vk = .int .i64 k ∧ ∃ V, With v4 wr gl gp V (ln i k) D P) (fun vk _ => 3 - (intOf vk).toNat)
      case atStart => exact ⟨0, Nat.zero_le _, rfl, _, W6.out⟩
      case round =>
        obtain ⟨k, hk, rfl, V', hW⟩ := hrel
        by_cases hk3 : k < 3
        · have hkk : ln i k k = i := by simp [ln]
          have hown : wr.ownsRow (gl + 1) 22 1 (V' k) i (cellsOf (D k) i) := by
            have := hW.tri.own k hk3
            rw [hkk] at this
            exact this
          have hcl := hW.tri.cell k hk3
          have hcp : wr.cell? ⟨gp, k, none⟩ = some (.int .u64 (D k i)) := by rw [← HP.out k hk3]; exact hW.fam.zero k hk3
          have hszl := hW.tri.lt
          have hst : Hid (∀ (w1 : World) (g cap : Nat), w1.ownsRow (gl + 1) 22 1 (.slice (some ⟨g, 0, none⟩) (i + 1) cap) (i + 1) (cellsOf (D k) i ++ [.int .u64 (D k i)]) → (wr.alloc (.cells #[.int .u64 (D k i)] 22)).grownBy w1 (V' k).ownBlock → ((V' k).ownBlock = some g ∨ g = wr.heap.size + 1) → w1.cell? ⟨gl, k, none⟩ = some (V' k) ∧ w1.frozen? ⟨gl, k, none⟩ = false ∧ With v4 (w1.setCell ⟨gl, k, none⟩ (.slice (some ⟨g, 0, none⟩) (i + 1) cap)) gl gp (fun j => if j = k then .slice (some ⟨g, 0, none⟩) (i + 1) cap else V' j) (ln i (k + 1)) D P) := fun w1 g cap h1 h2 h3 => hW.step hk3 rfl h1 h2 h3
          have hk0I : (0 : Int) ≤ (k : Int) := by omega
          have hk3I : (k : Int) < 3 := by omega
          clear hW W6 T6 HP
          generalize D k i = X at *
          generalize cellsOf (D k) i = xs at *
          generalize V' k = vk at *
          go_wp2_with fail
          go_region_law ((refine step_append_lies _ (by rfl) _ _ _ (by rfl) (gl + 1) 22 i0 (.int .u64 0) 1 8 Tryd.underlying35 hi hz0 hz1 hz2 (by rfl) (by decide) vk i xs (by simp [Act.eval]) ((hown.alloc _).drew) ⟨wr.heap.size, 0, none⟩ 1 1 [.int .u64 X] (by simp [Act.eval]) (by rfl) (World.news_of_block (cs := #[.int .u64 X]) (t := 22) (fr := (0, 0)) (heap_alloc_new wr _)) (by simp [Value.oneCell']) (by omega) (by unfold maxLen; omega) (by omega) (by simp; omega) (wr.heap.size + 1) (by simp) ?_; intro g cap w1 hown1 hgrow hat hlt; obtain ⟨r1, r2, r3'⟩ := hst.out w1 g cap hown1 (grown_undrew hgrow) hat; have R3 : Hid _ := r3'; clear r3' hown1 hgrow hat))
          all_goals
            go_wp2_with fail
            go_roundw
            case rel => exact ⟨k + 1, by omega, by go_num, _, R3.out⟩
            case measure => simp [intOf]; omega
        · obtain rfl : k = 3 := by omega
          have hT3 : Hid (Tri v4 wr gl V' (ln (i + 1) 0) D) := hW.tri.congr (fun j hj => by simp [ln, hj])
          clear hW
          go_wp2_with fail
          go_roundw
          case rel => exact ⟨i + 1, by omega, by go_num, _, hT3.out⟩
          case measure => simp [intOf]; omega
    · obtain rfl : i = n := by omega
      have hln : ∀ j, ln i 0 j = i := fun j => by simp [ln]
      have o0 := hV.own 0 (by omega)
      have o1 := hV.own 1 (by omega)
      have o2 := hV.own 2 (by omega)
      rw [hln] at o0 o1 o2
      have q0 := hV.cell 0 (by omega)
      have q1 := hV.cell 1 (by omega)
      have q2 := hV.cell 2 (by omega)
      have Bo : Hid (Below w.heap.size w wo) := B4.out.trans (hV.bel.mono z3)
      have lies : ∀ {v : Value} {F : Nat → Int}, Own wo (gl + 1) v i F → ∃ ao c, v = .slice ao i c ∧ Lies wo ao i F := fun {v F} h => by
        by_cases h1 : 1 ≤ i
        · obtain ⟨g, cap, e, _, _, hf, _⟩ := own_fam h h1
          exact ⟨_, _, e, fun _ => ⟨g, 0, rfl, hf⟩⟩
        · obtain ⟨ao, c, e⟩ := own_slice h
          exact ⟨ao, c, e, fun h' => absurd h' h1⟩
      obtain ⟨a0, k0, e0, l0⟩ := lies o0
      obtain ⟨a1, k1, e1, l1⟩ := lies o1
      obtain ⟨a2, k2, e2, l2⟩ := lies o2
      rw [e0] at q0
      rw [e1] at q1
      rw [e2] at q2
      have hnm : Hid (∀ t, nm (D 0 t) (D 1 t) (D 2 t) = A t) := fun t => by
        rw [HD.out, HD.out, HD.out]
        exact nm_back (hA0 t) (by have := hA1 t; omega) (md_md _ _) (md_md _ _) (md_md _ _)
      have hD0 : ∀ j t, 0 ≤ D j t := fun j t => by rw [HD.out]; exact md_nonneg _ _
      have c5 : Hid _ := rows_any a0 a1 a2 i k0 k1 k2 (by omega) (D 0) (D 1) (D 2) (hD0 0) (hD0 1) (hD0 2) wo To l0 l1 l2
      have La : Hid (Lies wo sa i A) := Lies.below la.out Bo.out (Nat.le_refl _)
      clear hV HV o0 o1 o2 lies e0 e1 e2 l0 l1 l2 R4 L4 hD0
      go_wp2_with fail
      refine Calls.mono (Hid.out c5) ?_; rintro e v5 ⟨hR, b5⟩
      have T5 : Tab v5 := To.below b5 (tab_lt To)
      have B5 : Hid (Below w.heap.size w v5) := Bo.out.trans (b5.mono Bo.out.size)
      obtain ⟨g, rfl, hg2, hf⟩ : ∃ g, e = .returned (.tuple #[.slice (some ⟨g, 0, none⟩) i i, .bool true]) ∧ g < v5.heap.size ∧ Fam v5 g 0 i A := by
        rcases hR with ⟨_, g, he, _, h2, h3⟩ | ⟨⟨t, ht, h⟩, _⟩
        · exact ⟨g, he, h2, h3.congr (fun t _ => hnm.out t)⟩
        · exfalso
          have h' : 18446744073709551616 ≤ nm (D 0 t) (D 1 t) (D 2 t) := h
          rw [hnm.out] at h'
          have := hA1 t
          omega
      have Hf : Hid (Fam v5 g 0 i A) := hf
      have La5 : Hid (Lies v5 sa i A) := Lies.below La.out b5 (Nat.le_refl _)
      have c6 : Hid _ := al.out v5 T5
      clear hR b5 c5 La hf q0 q1 q2
      go_wp2_with fail
      refine Calls.mono (Hid.out c6) ?_; rintro e v6 ⟨rfl, b6⟩
      have B6 : Hid (Below w.heap.size w v6) := B5.out.trans (b6.mono B5.out.size)
      have c7 : Hid (Calls Tryd.prog 22 #[.slice (some ⟨g, 0, none⟩) i i, .slice sa i ca] v6 fun e w' => e = .returned (.bool true) ∧ ∃ q, w' = v6.drewN q) := by
        by_cases h1 : 1 ≤ i
        · obtain ⟨b', o', rfl, hfa⟩ := La5.out h1
          exact same_fam i (by omega) g 0 i b' o' ca A A (fun _ _ => rfl) v6 (Fam.below Hf.out b6 hg2) (Fam.below hfa b6 (Fam.lt hfa h1))
        · obtain rfl : i = 0 := by omega
          exact same_nil _ _ _ _ v6
      clear b6 c6 al
      go_wp2_with fail
      refine Calls.mono (Hid.out c7) ?_; rintro e w' ⟨rfl, q, hw'⟩; subst w'
      go_wp2_with fail
      go_ret
      exact ⟨rfl, below_drewN B6.out q⟩

end Go.Proofs.YtlkooihjcdgcjaaDoor.crtRows
