/- Contracts of wild.places, of wild.Find and of the document's Find. -/
import Derived.Test.YtbojmkkpgglhhaaDoorWdSum
namespace Go.Proofs.YtbojmkkpgglhhaaDoor
open Go.RowKit Res
namespace Cls

/-- What is told of places: L, how many transforms, the error. -/
def Told5 (w : World) (L : List Nat) (q c : Int) (e : Ending) (w' : World) : Prop :=
  (∃ bo d, e = .returned (.tuple #[.slice bo L.length d, .int .i64 q, .int .i64 c]) ∧ Is w' bo L) ∧ Below w.heap.size w w'

theorem told5_nil {w w' : World} {q c : Int} (h : Below w.heap.size w w') : Told5 w [] q c (.returned (.tuple #[.slice none 0 0, .int .i64 q, .int .i64 c])) w' := ⟨⟨none, 0, rfl, fun h => absurd h (by simp)⟩, h⟩

/-- Where a leaf is found by sums. -/
def wf (P : Nat → Nat → Bool) (n : Nat) (K : Int) (s : ByteArray) (z : Int) : List Nat := if K = 0 then hts (fun i => ws P s i n) 0 (wn P n K s.size z) else []

def wfe (P : Nat → Nat → Bool) (n : Nat) (K : Int) (m : Nat) (z : Int) : Int := if K = 0 then we P n K m z else 170

def wfq (P : Nat → Nat → Bool) (n : Nat) (K : Int) (m : Nat) (z : Int) : Int := if K = 0 then wq P n K m z else 0

set_option maxHeartbeats 1000000 in
theorem wzeros_any (F : Nat → Int) (hF : ∀ t, 0 ≤ F t) (n cap : Nat) (ao : Option Addr) (hn : n ≤ 10000000) (w : World) (hl : Lies w ao n F) :
    Calls Tryd.prog 39 #[.slice ao n cap, .int .u64 0] w (Told w (hts F 0 n)) := by
  have HL : Hid (Lies w ao n F) := hl
  have H0 : Hid (∀ t, 0 ≤ F t) := hF
  obtain ⟨i0, hi, hz0, hz1, hz2⟩ := infoI
  clear hl hF
  go_enter Tryd.func39, Tryd.ntmps39
  go_wp2_with fail
  go_loopw [5, 10] (fun vo vk wr => Below w.heap.size w wr ∧ ∃ j : Nat, j ≤ n ∧ vk = .int .i64 j ∧ OwnI wr w.heap.size vo (hts F 0 j)) (fun _ vk _ => n - (intOf vk).toNat)
  case atStart => exact ⟨Below.refl _ _, 0, Nat.zero_le _, rfl, World.ownsRow_nil _ _ _ _⟩
  case round =>
    obtain ⟨hbel, j, hj, rfl, hown⟩ := hrel
    have HB : Hid _ := hbel
    have O3 : wr.ownsRow w.heap.size 3 1 u5 (hts F 0 j).length (pls (hts F 0 j)) := hown
    have HLr : Hid (Lies wr ao n F) := HL.out.below hbel (Nat.le_refl _)
    have hsz : w.heap.size ≤ wr.heap.size := hbel.size
    clear hbel hown
    by_cases hjn : j < n
    · obtain ⟨b, o, rfl, hC⟩ := HLr.out (by omega)
      have c0 := hC j hjn
      have hjI : (j : Int) < (n : Int) := by omega
      have hlen := hts_len F 0 j
      have h0 := H0.out j
      clear hC
      by_cases hk : F j = 0
      · have HW' : Hid (hts F 0 (j + 1) = hts F 0 j ++ [j]) := hts_yes (by omega)
        rw [hk] at c0
        go_wp2_with (first | (at_builtin; refine wpList_append_own _ rfl _ _ 39 rfl w.heap.size 3 i0 (.int .i64 0) 1 8 Tryd.underlying39 hi hz0 hz1 hz2 rfl (by decide) _ _ _ rfl (O3.alloc _) ⟨wr.heap.size, 0, none⟩ 1 1 [.int .i64 (j : Int)] rfl rfl ?c1 ?c2 ?c3 ?c4 ?c5 ?_))
        case c1 =>
          intro j' u hj'
          match j', hj' with
          | 0, hj' => simp at hj'; subst hj'; simp [Addr.add]
        case c2 => intro u hu; simp at hu; subst hu; rfl
        case c3 => unfold maxLen; omega
        case c4 => omega
        case c5 => simp; omega
        · intro v' w4 hown' hgrow _
          have HR : Hid (Below w.heap.size w w4) := grow_below hsz HB.out O3 hgrow
          have HO4 : Hid (OwnI w4 w.heap.size v' (hts F 0 (j + 1))) := by show OwnI _ _ _ _; unfold OwnI; rw [HW'.out, List.length_append, pls, List.map_append]; exact hown'
          clear hown' hgrow O3 HB
          go_wp2_with fail
          go_roundw
          case rel => exact ⟨HR.out, j + 1, by omega, by go_num, HO4.out⟩
          case measure => simp [intOf]; omega
      · have HW' : Hid (hts F 0 (j + 1) = hts F 0 j) := hts_no (by omega)
        have hkB : (F j == 0) = false := by simpa using hk
        have HO : Hid (OwnI wr w.heap.size u5 (hts F 0 j)) := O3
        clear O3
        go_wp2_with fail
        go_roundw
        case rel => exact ⟨HB.out, j + 1, by omega, by go_num, by rw [HW'.out]; exact HO.out⟩
        case measure => simp [intOf]; omega
    · obtain rfl : j = n := by omega
      have HT : Hid (Told w (hts F 0 j) (.returned u5) wr) := told_of O3 HB.out
      obtain ⟨⟨bo, d, e, _⟩, _⟩ := HT.out
      cases e
      clear O3
      go_wp2_with fail
      go_ret
      exact HT.out

set_option maxHeartbeats 2000000 in
theorem wfind_any (P : Nat → Nat → Bool) (n cap : Nat) (ao : Option Addr) (K z : Int) (s : ByteArray) (hs : s.size ≤ 1000000) (w : World) (hA : Tab w) (hT : TabB w) (hl : Lf w ao n P) :
    Calls Tryd.prog 18 #[.agg #[.slice ao n cap, .int .i64 K], .string s, .int .i64 z] w (Told5 w (wf P n K s z) (wfq P n K s.size z) (wfe P n K s.size z)) := by
  obtain ⟨w1, b1⟩ := lbox w (.slice ao n cap) (.int .i64 K)
  have E1 : Hid _ := b1.eq
  have B1 : Hid (Below w.heap.size w w1) := b1.bel
  have c0 := b1.c0
  have c1 := b1.c1
  have cs : Hid _ := wsums_any P n cap ao K z s hs w1 (tab_grow hA b1.bel) (hT.grow b1.bel) (hl.grow b1.bel)
  clear b1 hl hT hA
  by_cases hK : K = 0
  · have e1 : wf P n K s z = hts (fun i => ws P s i n) 0 (wn P n K s.size z) := if_pos hK
    have e2 : wfe P n K s.size z = we P n K s.size z := if_pos hK
    have e3 : wfq P n K s.size z = wq P n K s.size z := if_pos hK
    rw [e1, e2, e3]
    by_cases he : we P n K s.size z = 0
    · have hN : wn P n K s.size z ≤ 1000001 := by unfold wn; split <;> omega
      generalize wn P n K s.size z = N at *
      generalize wq P n K s.size z = Q at *
      rw [he] at cs ⊢
      have cz : Hid (∀ (v : World) (bo : Option Addr) (d : Nat), Lies v bo N (fun i => ws P s i n) → Calls Tryd.prog 39 #[.slice bo N d, .int .u64 0] v (Told v (hts (fun i => ws P s i n) 0 N))) := fun v bo d h => wzeros_any (fun i => ws P s i n) (fun i => (ws_le P s i n).1) N d bo (by omega) v h
      generalize hts (fun i => ws P s i n) 0 N = L at *
      subst hK
      clear e1 e2 e3 he
      go_enter Tryd.func18, Tryd.ntmps18
      go_wp2_with (first | rw [← E1.out])
      refine Calls.mono (Hid.out cs) ?_; rintro e w2 ⟨o2, k2, rfl, l2, b2⟩
      have B2 : Hid (Below w.heap.size w w2) := B1.out.trans (b2.mono B1.out.size)
      have cz' : Hid _ := cz.out w2 o2 k2 l2
      clear b2 l2 cs c0 c1 E1 cz
      go_wp2_with fail
      refine Calls.mono (Hid.out cz') ?_; rintro e w3 ⟨⟨o3, d3, rfl, i3, _⟩, b3⟩
      have HT : Hid (Told5 w L Q 0 (.returned (.tuple #[.slice o3 L.length d3, .int .i64 Q, .int .i64 0])) w3) := ⟨⟨o3, d3, rfl, i3⟩, B2.out.trans (b3.mono B2.out.size)⟩
      clear b3 i3 cz'
      go_wp2_with fail
      refine bodyPost_ret (results_tmp3 rfl _ _ _) rfl ?_
      exact HT.out
    · have hN : wn P n K s.size z = 0 := if_neg he
      have hQ : wq P n K s.size z = 0 := if_neg he
      rw [hN] at cs ⊢
      rw [hQ] at cs ⊢
      generalize we P n K s.size z = C at *
      have heB : (C == 0) = false := by simpa using he
      subst hK
      clear e1 e2 e3
      go_enter Tryd.func18, Tryd.ntmps18
      go_wp2_with (first | rw [← E1.out])
      refine Calls.mono (Hid.out cs) ?_; rintro e w2 ⟨o2, k2, rfl, _, b2⟩
      have B2 : Hid (Below w.heap.size w w2) := B1.out.trans (b2.mono B1.out.size)
      clear b2 cs c0 c1 E1
      go_wp2_with fail
      refine bodyPost_ret (results_tmp3 rfl _ _ _) rfl ?_
      exact told5_nil B2.out
  · have e1 : wf P n K s z = [] := if_neg hK
    have e2 : wfe P n K s.size z = 170 := if_neg hK
    have e3 : wfq P n K s.size z = 0 := if_neg hK
    rw [e1, e2, e3]
    have hKB : (K == 0) = false := by simpa using hK
    clear e1 e2 e3 cs
    go_enter Tryd.func18, Tryd.ntmps18
    go_wp2_with (first | rw [← E1.out])
    refine bodyPost_ret (results_tmp3 rfl _ _ _) rfl ?_
    exact told5_nil B1.out

set_option maxHeartbeats 2000000 in
theorem refWFind_any (P : Nat → Nat → Bool) (n cap : Nat) (ao : Option Addr) (K z : Int) (s : ByteArray) (hs : s.size ≤ 1000000) (w : World) (hl : Lf w ao n P) :
    Calls Tryd.prog 19 #[.agg #[.slice ao n cap, .int .i64 K], .string s, .int .i64 z] w (Told5 w (wf P n K s z) (wfq P n K s.size z) (wfe P n K s.size z)) := by
  obtain ⟨w1, b1⟩ := lbox w (.slice ao n cap) (.int .i64 K)
  have E1 : Hid _ := b1.eq
  have B1 : Hid (Below w.heap.size w w1) := b1.bel
  have c0 := b1.c0
  have c1 := b1.c1
  have cs : Hid _ := refWSums_any P n cap ao K z s hs w1 (hl.grow b1.bel)
  clear b1 hl
  by_cases hK : K = 0
  · have e1 : wf P n K s z = hts (fun i => ws P s i n) 0 (wn P n K s.size z) := if_pos hK
    have e2 : wfe P n K s.size z = we P n K s.size z := if_pos hK
    have e3 : wfq P n K s.size z = wq P n K s.size z := if_pos hK
    rw [e1, e2, e3]
    have hN : wn P n K s.size z ≤ 1000001 := by unfold wn; split <;> omega
    obtain ⟨N, hN'⟩ : ∃ N, wn P n K s.size z = N := ⟨_, rfl⟩
    rw [hN'] at cs hN ⊢
    generalize wq P n K s.size z = Q at *
    generalize we P n K s.size z = C at *
    have H0 : Hid (∀ i, 0 ≤ ws P s i n) := fun i => (ws_le P s i n).1
    obtain ⟨i0, hi, hz0, hz1, hz2⟩ := infoI
    obtain ⟨F, hF⟩ : ∃ F : Nat → Int, F = fun i => ws P s i n := ⟨_, rfl⟩
    rw [← hF] at cs ⊢
    have H0 : Hid (∀ i, 0 ≤ F i) := by show ∀ i, 0 ≤ F i; rw [hF]; exact H0.out
    subst hK
    clear e1 e2 e3 hN' hF
    go_enter Tryd.func19, Tryd.ntmps19
    go_wp2_with (first | rw [← E1.out])
    refine Calls.mono (Hid.out cs) ?_; rintro e w2 ⟨o2, k2, rfl, l2, b2⟩
    have B2 : Hid (Below w.heap.size w w2) := B1.out.trans (b2.mono B1.out.size)
    have HL : Hid (Lies w2 o2 N F) := l2
    clear b2 l2 cs c0 c1 E1
    go_wp2_with fail
    go_loopw [12, 13] (fun vo vk wr => Below w2.heap.size w2 wr ∧ ∃ j : Nat, j ≤ N ∧ vk = .int .i64 j ∧ OwnI wr w2.heap.size vo (hts F 0 j)) (fun _ vk _ => N - (intOf vk).toNat)
    case atStart => exact ⟨Below.refl _ _, 0, Nat.zero_le _, rfl, World.ownsRow_nil _ _ _ _⟩
    case round =>
      obtain ⟨hbel, j, hj, rfl, hown⟩ := hrel
      have HB : Hid _ := hbel
      have O3 : wr.ownsRow w2.heap.size 3 1 u12 (hts F 0 j).length (pls (hts F 0 j)) := hown
      have HLr : Hid (Lies wr o2 N F) := HL.out.below hbel (Nat.le_refl _)
      have hsz : w2.heap.size ≤ wr.heap.size := hbel.size
      clear hbel hown
      by_cases hjn : j < N
      · obtain ⟨b, o, rfl, hC⟩ := HLr.out (by omega)
        have c0 := hC j hjn
        have hjI : (j : Int) < (N : Int) := by omega
        have hlen := hts_len F 0 j
        have h0 := H0.out j
        clear hC
        by_cases hk : F j = 0
        · have HW' : Hid (hts F 0 (j + 1) = hts F 0 j ++ [j]) := hts_yes (by omega)
          rw [hk] at c0
          go_wp2_with (first | (at_builtin; refine wpList_append_own _ rfl _ _ 39 rfl w2.heap.size 3 i0 (.int .i64 0) 1 8 Tryd.underlying39 hi hz0 hz1 hz2 rfl (by decide) _ _ _ rfl (O3.alloc _) ⟨wr.heap.size, 0, none⟩ 1 1 [.int .i64 (j : Int)] rfl rfl ?c1 ?c2 ?c3 ?c4 ?c5 ?_))
          case c1 =>
            intro j' u hj'
            match j', hj' with
            | 0, hj' => simp at hj'; subst hj'; simp [Addr.add]
          case c2 => intro u hu; simp at hu; subst hu; rfl
          case c3 => unfold maxLen; omega
          case c4 => omega
          case c5 => simp; omega
          · intro v' w4 hown' hgrow _
            have HR : Hid (Below w2.heap.size w2 w4) := grow_below hsz HB.out O3 hgrow
            have HO4 : Hid (OwnI w4 w2.heap.size v' (hts F 0 (j + 1))) := by show OwnI _ _ _ _; unfold OwnI; rw [HW'.out, List.length_append, pls, List.map_append]; exact hown'
            clear hown' hgrow O3 HB
            go_wp2_with fail
            go_roundw
            case rel => exact ⟨HR.out, j + 1, by omega, by go_num, HO4.out⟩
            case measure => simp [intOf]; omega
        · have HW' : Hid (hts F 0 (j + 1) = hts F 0 j) := hts_no (by omega)
          have hkB : (F j == 0) = false := by simpa using hk
          have HO : Hid (OwnI wr w2.heap.size u12 (hts F 0 j)) := O3
          clear O3
          go_wp2_with fail
          go_roundw
          case rel => exact ⟨HB.out, j + 1, by omega, by go_num, by rw [HW'.out]; exact HO.out⟩
          case measure => simp [intOf]; omega
      · obtain rfl : j = N := by omega
        have HT : Hid (Told w2 (hts F 0 j) (.returned u12) wr) := told_of O3 HB.out
        obtain ⟨⟨bo, d, e, hi3, _⟩, b3⟩ := HT.out
        cases e
        have HT5 : Hid (Told5 w (hts F 0 j) Q C (.returned (.tuple #[.slice bo (hts F 0 j).length d, .int .i64 Q, .int .i64 C])) wr) := ⟨⟨bo, d, rfl, hi3⟩, B2.out.trans (b3.mono B2.out.size)⟩
        clear O3 HT hi3 b3
        go_wp2_with fail
        refine bodyPost_ret (results_tmp3 rfl _ _ _) rfl ?_
        exact HT5.out
  · have e1 : wf P n K s z = [] := if_neg hK
    have e2 : wfe P n K s.size z = 170 := if_neg hK
    have e3 : wfq P n K s.size z = 0 := if_neg hK
    rw [e1, e2, e3]
    have hKB : (K == 0) = false := by simpa using hK
    clear e1 e2 e3 cs
    go_enter Tryd.func19, Tryd.ntmps19
    go_wp2_with (first | rw [← E1.out])
    refine bodyPost_ret (results_tmp3 rfl _ _ _) rfl ?_
    exact told5_nil B1.out

end Cls
end Go.Proofs.YtbojmkkpgglhhaaDoor
