/- Contract of beaglelaw13.Olds. (Written by mktk16.py.) beagleref13.Print of a token with more classes than a pattern may have: there is no text. Nothing of the classes is read. -/
import Derived.Test.YtljahelbbafhlaaDoorTkRf5
import Derived.Test.YtljahelbbafhlaaDoorTkPr3

set_option linter.unusedVariables false
namespace Go.Proofs.YtljahelbbafhlaaDoor
open Go.RowKit
namespace Cls

/-- Where the copying stands. -/
structure Ol (w wr : World) (L : List Tv) (j : Nat) (v : Value) : Prop where
  bel : Below w.heap.size w wr
  own : OT wr w.heap.size 42 v (L.take j)

set_option maxRecDepth 100000 in
set_option maxHeartbeats 4000000 in
theorem olds_any (n : Nat) (so : Option Addr) (ca : Nat) (L : List Tv) (w : World) (hn : L.length = n) (hb : n ≤ 1000000) (hL : TR w so L) :
    Calls Tryd.prog 13 #[.slice so n ca] w fun e w' => (∃ v, e = .returned v ∧ OT w' w.heap.size 42 v L) ∧ Below w.heap.size w w' := by
  obtain ⟨i0, hi0, hz0, hz1, hz2⟩ := infoR
  have HL : Hid _ := hL
  have HN : Hid (L.length = n) := hn
  clear hL hn
  go_enter Tryd.func13, Tryd.ntmps13
  go_wp2_with fail
  go_loopw [3, 8] (fun v vi wr => ∃ i : Nat, i ≤ n ∧ vi = .int .i64 (i : Int) ∧ Ol w wr L i v) (fun _ vi _ => n - (intOf vi).toNat)
  case atStart => exact ⟨0, Nat.zero_le _, rfl, ⟨Below.refl _ _, ot_nil _ _ _⟩⟩
  case round =>
    obtain ⟨i, hi, rfl, hP⟩ := hrel
    have HB : Hid (Below w.heap.size w wr) := hP.bel
    have HO : Hid (OT wr w.heap.size 42 u3 (L.take i)) := hP.own
    clear hP
    by_cases hin : i < n
    · have hiI : (i : Int) < (n : Int) := by omega
      have h1 : i < L.length := by rw [HN.out]; exact hin
      obtain ⟨b, o, rfl, hlt, hC⟩ := (HL.out.grow HB.out).lies (by omega)
      have hT4 := hC i h1
      have hok := HL.out.ok L[i] (List.getElem_mem h1)
      have hlen : (L.take i).length = i := by rw [List.length_take]; omega
      have HTK : Hid (L.take i ++ [L[i]] = L.take (i + 1)) := by show _ = _; simp
      generalize L[i] = x at *
      obtain ⟨xk, hxk⟩ : ∃ xk, x.i.kind = xk := ⟨_, rfl⟩
      obtain ⟨xa, hxa⟩ : ∃ xa, x.i.at' = xa := ⟨_, rfl⟩
      obtain ⟨xn, hxnn⟩ : ∃ xn, x.i.n = xn := ⟨_, rfl⟩
      obtain ⟨xl, hxl⟩ : ∃ xl, x.i.p.length = xl := ⟨_, rfl⟩
      obtain ⟨xo, hxoo⟩ : ∃ xo, x.ao = xo := ⟨_, rfl⟩
      obtain ⟨xc, hxc⟩ : ∃ xc, x.cap = xc := ⟨_, rfl⟩
      have NWA : ∀ (w : World) j u, x.four[j]? = some u → (w.alloc (.cells #[.int .i64 x.i.kind, .int .i64 x.i.at', .int .i64 x.i.n, .slice x.ao x.i.p.length x.cap] 42)).cell? ((⟨w.heap.size, 0, none⟩ : Addr).add j) = some u := fun w j u h => new4t w x 42 j u h
      have PLA : ∀ u ∈ x.four, u.oneCell' = true := plain4t x
      have A3 : 1 ≤ x.i.p.length → ∀ b o, x.ao = some ⟨b, o, none⟩ → some b ≠ u3.ownBlock := fun hp b o e hh => by
        obtain ⟨b2, o2, e2, h2, _⟩ := hok.lies hp
        rw [e] at e2
        injection e2 with e2
        injection e2 with e2 _ _
        have := HO.out.lies b hh.symm
        omega
      have HSTA : ∀ (w5 : World), Below wr.heap.size wr w5 → ∀ v' w', w'.ownsRow w.heap.size 42 4 v' ((L.take i).length + 1) (tkc (L.take i) ++ x.four) → (w5.alloc (.cells #[.int .i64 x.i.kind, .int .i64 x.i.at', .int .i64 x.i.n, .slice x.ao x.i.p.length x.cap] 42)).grownBy w' u3.ownBlock → (v'.ownBlock = u3.ownBlock ∨ v'.ownBlock = some (w5.heap.size + 1)) → OT w' w.heap.size 42 v' (L.take i ++ [x]) := fun w5 h5 v' w' h1 h2 h3 => (HO.out.grow h5).step ((hok.grow HB.out).grow h5) A3 h1 h2 (by rw [al_size]; exact h3)
      obtain ⟨c0, c1, c2, c3⟩ := hT4
      unfold Tv.four at NWA PLA HSTA
      rw [hxk, hxa, hxnn, hxl, hxoo, hxc] at NWA PLA HSTA
      rw [hxk] at c0
      rw [hxa] at c1
      rw [hxnn] at c2
      rw [hxl, hxoo, hxc] at c3
      rw [hlen] at HSTA
      obtain ⟨w4, e4⟩ : ∃ w4, w4 = wr.alloc (.cells #[.int .i64 xk, .int .i64 xa, .int .i64 xn, .slice xo xl xc] 40) := ⟨_, rfl⟩
      have b4 : Below wr.heap.size wr w4 := by rw [e4]; exact al_below _ _
      have q4 : K4 w4 wr.heap.size (.int .i64 xk) (.int .i64 xa) (.int .i64 xn) (.slice xo xl xc) := by rw [e4]; exact k4_new _ _ _ _ _ _
      have HB4 : Hid (Below w.heap.size w w4) := HB.out.trans (b4.mono HB.out.size)
      have HST : Hid _ := HSTA w4 b4
      have O4 := (HO.out.grow b4).own
      rw [hlen] at O4
      have HO4 : Hid (w4.ownsRow w.heap.size 42 4 u3 i (tkc (L.take i))) := O4
      have E4 : Hid _ := e4
      obtain ⟨a0, a1, a2, a3⟩ := q4
      have hsz : w.heap.size ≤ w4.heap.size := HB4.out.size
      have PL : Hid _ := PLA
      have NW : Hid _ := NWA
      have hfl : i + 1 ≤ 1000000 := by omega
      clear e4 b4 O4 HB HO NWA PLA A3 HSTA hok hC hxk hxa hxnn hxl hxoo hxc hlen h1
      go_wp2_with (first | rw [← E4.out] | (at_builtin; refine wpList_append_own_at _ rfl _ _ 27 rfl w.heap.size 42 i0 (.agg #[.int .i64 0, .int .i64 0, .int .i64 0, .slice none 0 0]) 4 48 Tryd.underlying27 hi0 hz0 hz1 hz2 rfl (by decide) _ _ _ rfl (HO4.out.alloc _) ⟨w4.heap.size, 0, none⟩ 1 1 [.int .i64 xk, .int .i64 xa, .int .i64 xn, .slice xo xl xc] rfl rfl ?c1 ?c2 ?c3 ?c4 ?c5 ?_))
      case c1 => exact NW.out w4
      case c2 => exact PL.out
      case c3 => unfold maxLen; omega
      case c4 => omega
      case c5 => first | omega | (simp; omega) | (show _ ≤ (w4.heap.push _).size; simp; omega)
      · intro v' w8 hown' hgrow _ hat
        have HR : Hid (Below w.heap.size w w8) := grow_below hsz HB4.out HO4.out hgrow
        have HO6 : Hid (OT w8 w.heap.size 42 v' (L.take (i + 1))) := by
          have := HST.out v' w8 hown' hgrow hat
          rw [HTK.out] at this
          exact this
        clear hown' hgrow HO4 HB4 E4 hat HST NW PL a0 a1 a2 a3
        go_wp2_with fail
        go_roundw
        case rel => exact ⟨i + 1, by omega, by go_num, ⟨HR.out, HO6.out⟩⟩
        case measure => simp [intOf]; omega
    · obtain rfl : i = n := by omega
      have HF : Hid (L.take i = L) := by show _ = _; rw [List.take_of_length_le]; rw [HN.out]; exact Nat.le_refl _
      go_wp2_with fail
      go_ret
      exact ⟨⟨u3, rfl, by have := HO.out; rw [HF.out] at this; exact this⟩, HB.out⟩

end Cls

end Go.Proofs.YtljahelbbafhlaaDoor

set_option linter.unusedVariables false
namespace Go.Proofs.YtljahelbbafhlaaDoor
open Go.RowKit
namespace Cls

set_option maxRecDepth 100000 in
set_option maxHeartbeats 4000000 in
theorem print13_big (k a m : Int) (ao : Option Addr) (l cap : Nat) (hl : 64 < l) (w : World) :
    Calls Tryd.prog 17 #[.agg #[.int .i64 k, .int .i64 a, .int .i64 m, .slice ao l cap]] w fun e w' => e = .returned (.tuple #[.string ⟨#[]⟩, .bool false]) ∧ Below w.heap.size w w' := by
  obtain ⟨w1, e1⟩ : ∃ w1, w1 = w.alloc (.cells #[.int .i64 k, .int .i64 a, .int .i64 m, .slice ao l cap] 42) := ⟨_, rfl⟩
  have b1 : Hid (Below w.heap.size w w1) := by show Below _ _ _; rw [e1]; exact al_below _ _
  obtain ⟨a0, a1, a2, a3⟩ : K4 w1 w.heap.size (.int .i64 k) (.int .i64 a) (.int .i64 m) (.slice ao l cap) := by rw [e1]; exact k4_new _ _ _ _ _ _
  have E1 : Hid _ := e1
  have l1 : ¬ (l : Int) < 1 := by omega
  have l2 : 64 < (l : Int) := by omega
  have l3 : ((l : Int) != 0) = true := by
    have h2 : ¬ (l : Int) = 0 := by omega
    simpa using h2
  clear e1
  have hh : k < 1 ∨ (¬ k < 1 ∧ 8 < k) ∨ (¬ k < 1 ∧ ¬ 8 < k ∧ m < 0) ∨ (¬ k < 1 ∧ ¬ 8 < k ∧ ¬ m < 0 ∧ 1000000 < m) ∨ (¬ k < 1 ∧ ¬ 8 < k ∧ ¬ m < 0 ∧ ¬ 1000000 < m ∧ (k == 8) = true ∧ (m != 0) = true) ∨ (¬ k < 1 ∧ ¬ 8 < k ∧ ¬ m < 0 ∧ ¬ 1000000 < m ∧ (k == 8) = true ∧ (m != 0) = false) ∨ (¬ k < 1 ∧ ¬ 8 < k ∧ ¬ m < 0 ∧ ¬ 1000000 < m ∧ (k == 8) = false) := by
    by_cases h1 : k < 1
    · exact .inl h1
    by_cases h2 : 8 < k
    · exact .inr (.inl ⟨h1, h2⟩)
    by_cases h3 : m < 0
    · exact .inr (.inr (.inl ⟨h1, h2, h3⟩))
    by_cases h4 : 1000000 < m
    · exact .inr (.inr (.inr (.inl ⟨h1, h2, h3, h4⟩)))
    cases h5 : k == 8 with
    | true =>
      cases h6 : m != 0 with
      | true => exact .inr (.inr (.inr (.inr (.inl ⟨h1, h2, h3, h4, rfl, rfl⟩))))
      | false => exact .inr (.inr (.inr (.inr (.inr (.inl ⟨h1, h2, h3, h4, rfl, rfl⟩)))))
    | false => exact .inr (.inr (.inr (.inr (.inr (.inr ⟨h1, h2, h3, h4, rfl⟩)))))
  rcases hh with h1 | ⟨h1, h2⟩ | ⟨h1, h2, h3⟩ | ⟨h1, h2, h3, h4⟩ | ⟨h1, h2, h3, h4, h5, h6⟩ | ⟨h1, h2, h3, h4, h5, h6⟩ | ⟨h1, h2, h3, h4, h5⟩
  all_goals
    go_enter Tryd.func17, Tryd.ntmps17
    go_wp2_with (first | rw [← E1.out])
    refine bodyPost_ret (results_tmp2 rfl _ _ _) rfl ?_
    exact ⟨rfl, b1.out⟩

end Cls

end Go.Proofs.YtljahelbbafhlaaDoor
