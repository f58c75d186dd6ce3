/- Contract of the document's own Rows (beagleref03). -/
import Derived.Test.YtlkooihjcdgcjaaDoorCrtRow
namespace Go.Proofs.YtlkooihjcdgcjaaDoor
open Go.RowKit Res

theorem Own.below {w w' : World} {B j : Nat} {v : Value} {D : Nat → Int} (h : Own w B v j D) (hb : Below w.heap.size w w') : Own w' B v j D := by
  obtain ⟨hl, h | ⟨g, cap, cur, hv, hg, hbl, rest⟩⟩ := h
  · exact ⟨hl, Or.inl h⟩
  · refine ⟨hl, Or.inr ⟨g, cap, cur, hv, hg, ?_, rest⟩⟩
    rw [hb.block g]
    · exact hbl
    · rcases Nat.lt_or_ge g w.heap.size with h0 | h0
      · exact h0
      · rw [Array.getElem?_eq_none h0] at hbl; cases hbl

/-- What the document's Rows tells. -/
def RefTold (w : World) (n : Nat) (N : Nat → Int) (e : Ending) (w' : World) : Prop :=
  ((∀ t, t < n → N t ≤ 18446744073709551615) ∧ ∃ v, e = .returned (.tuple #[v, .bool true]) ∧ Own w' w.heap.size v n N) ∨
  ((∃ t, t < n ∧ 18446744073709551616 ≤ N t) ∧ e = .returned (.tuple #[.slice none 0 0, .bool false]))

set_option maxHeartbeats 400000 in
theorem refRows_b (ao bo co : Option Addr) (n m l ca cb cc : Nat) (hnm : m ≠ n) (w : World) :
    Calls Tryd.prog 21 #[.slice ao n ca, .slice bo m cb, .slice co l cc] w fun e w' => e = .returned (.tuple #[.slice none 0 0, .bool false]) ∧ w' = w := by
  have h1 : ((n : Int) == (m : Int)) = false := beq_eq_false_iff_ne.2 (by omega)
  go_enter Tryd.func21, Tryd.ntmps21
  go_wp2_with fail
  go_ret2
  exact ⟨rfl, rfl⟩

set_option maxHeartbeats 400000 in
theorem refRows_c (ao bo co : Option Addr) (n l ca cb cc : Nat) (hnl : l ≠ n) (w : World) :
    Calls Tryd.prog 21 #[.slice ao n ca, .slice bo n cb, .slice co l cc] w fun e w' => e = .returned (.tuple #[.slice none 0 0, .bool false]) ∧ w' = w := by
  have h1 : ((n : Int) == (l : Int)) = false := beq_eq_false_iff_ne.2 (by omega)
  go_enter Tryd.func21, Tryd.ntmps21
  go_wp2_with fail
  go_ret2
  exact ⟨rfl, rfl⟩

set_option maxHeartbeats 2000000 in
theorem refRows_any (ao bo co : Option Addr) (n ca cb cc : Nat) (hn : n ≤ 8192) (A B C : Nat → Int) (hA : ∀ t, 0 ≤ A t) (hB : ∀ t, 0 ≤ B t) (hC : ∀ t, 0 ≤ C t) (w : World) (la : Lies w ao n A) (lb : Lies w bo n B) (lc : Lies w co n C) :
    Calls Tryd.prog 21 #[.slice ao n ca, .slice bo n cb, .slice co n cc] w fun e w' => RefTold w n (fun t => nm (A t) (B t) (C t)) e w' ∧ Below w.heap.size w w' := by
  obtain ⟨i0, hi, hz0, hz1, hz2⟩ := info_parts infoU
  have hself : ((n : Int) == (n : Int)) = true := beq_iff_eq.2 rfl
  have La : Hid _ := la
  have Lb : Hid _ := lb
  have Lc : Hid _ := lc
  clear la lb lc
  go_enter Tryd.func21, Tryd.ntmps21
  go_wp2_with fail
  go_loopw [8, 9] (fun v vi wr => ∃ i : Nat, i ≤ n ∧ vi = .int .i64 i ∧ (∀ t, t < i → nm (A t) (B t) (C t) ≤ 18446744073709551615) ∧ Own wr w.heap.size v i (fun t => nm (A t) (B t) (C t)) ∧ Below w.heap.size w wr) (fun _ vi _ => n - (intOf vi).toNat)
  case atStart => exact ⟨0, Nat.zero_le _, rfl, fun t h => by omega, own_nil _ _ _, Below.refl _ _⟩
  case round =>
    obtain ⟨i, hile, rfl, hall, hown, hbel⟩ := hrel
    have Hall : Hid _ := hall
    have Hown : Hid (Own wr w.heap.size _ i (fun t => nm (A t) (B t) (C t))) := hown
    have Hbel : Hid (Below w.heap.size w wr) := hbel
    have hszr := hbel.size
    by_cases hin : i < n
    · obtain ⟨ab, aof, rfl, fa⟩ := La.out (by omega)
      obtain ⟨bb, bof, rfl, fb⟩ := Lb.out (by omega)
      obtain ⟨cb', cof, rfl, fc⟩ := Lc.out (by omega)
      have la : ab < w.heap.size := Fam.lt fa (by omega)
      have lb : bb < w.heap.size := Fam.lt fb (by omega)
      have lc : cb' < w.heap.size := Fam.lt fc (by omega)
      have ka : wr.cell? ⟨ab, aof + i, none⟩ = some (.int .u64 (A i)) := (Fam.below fa hbel la) i hin
      have kb : wr.cell? ⟨bb, bof + i, none⟩ = some (.int .u64 (B i)) := (Fam.below fb hbel lb) i hin
      have kc : wr.cell? ⟨cb', cof + i, none⟩ = some (.int .u64 (C i)) := (Fam.below fc hbel lc) i hin
      have la' : ab < wr.heap.size := by omega
      have lb' : bb < wr.heap.size := by omega
      have lc' : cb' < wr.heap.size := by omega
      have hAi := hA i
      have hBi := hB i
      have hCi := hC i
      have hinI : (i : Int) < (n : Int) := by omega
      have hi0 : (0 : Int) ≤ (i : Int) := by omega
      clear hall hown hbel fa fb fc
      by_cases hfit : nm (A i) (B i) (C i) ≤ 18446744073709551615
      · go_wp2_with fail
        go_region_held3 (fun w' => w'.cell? ⟨ab, aof + i, none⟩ = some (.int .u64 (A i)) ∧ w'.cell? ⟨bb, bof + i, none⟩ = some (.int .u64 (B i)) ∧ w'.cell? ⟨cb', cof + i, none⟩ = some (.int .u64 (C i))) (go_keep)
          (first | (go_at_call 17; refine (refJoin_any (A i) (B i) (C i) hAi hBi hCi _).mono ?_; rintro e w4 ⟨hJ, b4⟩; obtain rfl := hJ.yes hfit; clear hJ; have b4' : Below wr.heap.size wr w4 := below_undrew b4; have ka4 : w4.cell? ⟨ab, aof + i, none⟩ = some (.int .u64 (A i)) := (b4'.cell (p := ⟨ab, aof + i, none⟩) la').trans ka; have kb4 : w4.cell? ⟨bb, bof + i, none⟩ = some (.int .u64 (B i)) := (b4'.cell (p := ⟨bb, bof + i, none⟩) lb').trans kb; have kc4 : w4.cell? ⟨cb', cof + i, none⟩ = some (.int .u64 (C i)) := (b4'.cell (p := ⟨cb', cof + i, none⟩) lc').trans kc; have H4 : Hid (Below wr.heap.size wr w4) := b4'; clear b4 b4'))
        have O4 : Hid (Own w4 w.heap.size _ i (fun t => nm (A t) (B t) (C t))) := Own.below Hown.out H4.out
        have B4 : Hid (Below w.heap.size w w4) := Hbel.out.trans (H4.out.mono hszr)
        have hsz4 : w.heap.size ≤ w4.heap.size := Nat.le_trans hszr H4.out.size
        have HA : Hid (∀ t, t < i + 1 → nm (A t) (B t) (C t) ≤ 18446744073709551615) := fun t ht => by
          by_cases e : t = i
          · rw [e]; exact hfit
          · exact Hall.out t (by omega)
        have hown4 := O4.out
        unfold Own at hown4
        clear ka ka4 kb kb4 kc kc4 H4 Hown Hbel
        go_wp2_with (at_builtin; refine wpList_append_own _ rfl _ _ 35 rfl w.heap.size 22 i0 (.int .u64 0) 1 8 Tryd.underlying35 hi hz0 hz1 hz2 rfl (by decide) _ _ _ rfl (hown4.alloc _) ⟨w4.heap.size, 0, none⟩ 1 1 [.int .u64 (nm (A i) (B i) (C i))] rfl rfl ?c1 ?c2 ?c3 ?c4 ?c5 ?_)
        case c1 =>
          intro j' u hj'
          match j', hj' with
          | 0, hj' => simp at hj'; subst hj'; simp [Addr.add]
        case c2 => intro u hu; simp at hu; subst hu; rfl
        case c3 => unfold maxLen; omega
        case c4 => omega
        case c5 => simp; omega
        · intro v' w5 hown' hgrow _
          have HR : Hid _ := own_step (D := fun t => nm (A t) (B t) (C t)) rfl hsz4 B4.out O4.out hown' hgrow
          clear hown' hgrow hown4
          go_wp2_with fail
          go_roundw
          case rel => exact ⟨i + 1, by omega, by go_num, HA.out, HR.out.1, HR.out.2⟩
          case measure => simp [intOf]; omega
      · go_wp2_with fail
        go_region_held3 (fun w' => w'.cell? ⟨ab, aof + i, none⟩ = some (.int .u64 (A i)) ∧ w'.cell? ⟨bb, bof + i, none⟩ = some (.int .u64 (B i)) ∧ w'.cell? ⟨cb', cof + i, none⟩ = some (.int .u64 (C i))) (go_keep)
          (first | (go_at_call 17; refine (refJoin_any (A i) (B i) (C i) hAi hBi hCi _).mono ?_; rintro e w4 ⟨hJ, b4⟩; obtain rfl := hJ.no (by omega); clear hJ; have b4' : Below wr.heap.size wr w4 := below_undrew b4; have ka4 : w4.cell? ⟨ab, aof + i, none⟩ = some (.int .u64 (A i)) := (b4'.cell (p := ⟨ab, aof + i, none⟩) la').trans ka; have kb4 : w4.cell? ⟨bb, bof + i, none⟩ = some (.int .u64 (B i)) := (b4'.cell (p := ⟨bb, bof + i, none⟩) lb').trans kb; have kc4 : w4.cell? ⟨cb', cof + i, none⟩ = some (.int .u64 (C i)) := (b4'.cell (p := ⟨cb', cof + i, none⟩) lc').trans kc; have H4 : Hid (Below wr.heap.size wr w4) := b4'; clear b4 b4'))
        have B4 : Hid (Below w.heap.size w w4) := Hbel.out.trans (H4.out.mono hszr)
        have HN : Hid (∃ t, t < n ∧ 18446744073709551616 ≤ nm (A t) (B t) (C t)) := ⟨i, hin, by omega⟩
        clear ka ka4 kb kb4 kc kc4
        go_wp2_with fail
        go_ret2
        exact ⟨Or.inr ⟨HN.out, rfl⟩, B4.out⟩
    · obtain rfl : i = n := by omega
      clear hown hall hbel
      go_wp2_with fail
      go_ret2
      exact ⟨Or.inl ⟨Hall.out, _, rfl, Hown.out⟩, Hbel.out⟩
end Go.Proofs.YtlkooihjcdgcjaaDoor
