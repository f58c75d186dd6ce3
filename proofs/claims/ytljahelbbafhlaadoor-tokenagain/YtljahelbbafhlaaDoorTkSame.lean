/- Contract of beagleref13.Same, for rows that are alike. (Written by mktk16.py.) -/
import Derived.Test.YtljahelbbafhlaaDoorTkRow
import Derived.Test.YtljahelbbafhlaaDoorLfA
set_option linter.unusedVariables false
namespace Go.Proofs.YtljahelbbafhlaaDoor
open Go.RowKit
namespace Cls

/-- Tokens that are alike. -/
structure Alk (x y : Tv) : Prop where
  kind : y.i.kind = x.i.kind
  at' : y.i.at' = x.i.at'
  n : y.i.n = x.i.n
  len : y.i.p.length = x.i.p.length
  cls : ∀ j, j < x.i.p.length → sm (Cls.at' x.i.p j) (Cls.at' y.i.p j) = true

theorem Alk.of_eq {x y : Tv} (h : x.i = y.i) : Alk x y := ⟨by rw [h], by rw [h], by rw [h], by rw [h], fun j _ => by rw [h]; exact sm_refl _⟩

/-- Rows of tokens that are alike. -/
structure Alks (L M : List Tv) : Prop where
  len : M.length = L.length
  all : ∀ i, (h : i < L.length) → (h' : i < M.length) → Alk L[i] M[i]

theorem Alks.of_eq {L M : List Tv} (h : L.map Tv.i = M.map Tv.i) : Alks L M := by
  have hl : L.length = M.length := by have := congrArg List.length h; simpa using this
  refine ⟨hl.symm, fun i h1 h2 => Alk.of_eq ?_⟩
  have := congrArg (fun l => l[i]?) h
  simpa [h1, h2] using this

set_option maxRecDepth 100000 in
set_option maxHeartbeats 4000000 in
theorem same13_any (n : Nat) (so to : Option Addr) (ca cb : Nat) (L M : List Tv) (w : World) (hn : L.length = n) (hL : TR w so L) (hM : TR w to M) (hq : Alks L M) :
    Calls Tryd.prog 12 #[.slice so n ca, .slice to n cb] w fun e w' => e = .returned (.bool true) ∧ Below w.heap.size w w' := by
  have HL : Hid _ := hL
  have HM : Hid _ := hM
  have HQ : Hid _ := hq
  have HN : Hid (L.length = n ∧ M.length = n) := ⟨hn, hq.len.trans hn⟩
  have hn2 : n ≤ 4398046511104 := by have := hL.small; omega
  clear hL hM hq hn
  go_enter Tryd.func12, Tryd.ntmps12
  go_wp2_with fail
  go_loopw [5] (fun vi wr => Below w.heap.size w wr ∧ ∃ i : Nat, i ≤ n ∧ vi = .int .i64 (i : Int)) (fun vi _ => n - (intOf vi).toNat)
  case atStart => exact ⟨Below.refl _ _, 0, Nat.zero_le _, rfl⟩
  case round =>
    obtain ⟨hbel, i, hi, rfl⟩ := hrel
    have HB : Hid _ := hbel
    by_cases hin : i < n
    · have hiI : (i : Int) < (n : Int) := by omega
      have h1 : i < L.length := by rw [HN.out.1]; exact hin
      have h2 : i < M.length := by rw [HN.out.2]; exact hin
      obtain ⟨b, o, rfl, hb, hC⟩ := HL.out.lies (by omega)
      obtain ⟨b', o', rfl, hb', hD⟩ := HM.out.lies (by omega)
      have hC := hC i h1
      have hD := hD i h2
      have hx := HL.out.ok L[i] (List.getElem_mem h1)
      have hy := HM.out.ok M[i] (List.getElem_mem h2)
      have hq := HQ.out.all i h1 h2
      generalize L[i] = x at *
      generalize M[i] = y at *
      have HCC : Hid (∀ wk, Below w.heap.size w wk → (wk.cell? ⟨b, o + i * 4, none⟩ = some (.int .i64 x.i.kind) ∧ wk.cell? ⟨b, o + i * 4 + 1, none⟩ = some (.int .i64 x.i.at') ∧ wk.cell? ⟨b, o + i * 4 + 2, none⟩ = some (.int .i64 x.i.n) ∧ wk.cell? ⟨b, o + i * 4 + 3, none⟩ = some (.slice x.ao x.i.p.length x.cap)) ∧ wk.cell? ⟨b', o' + i * 4, none⟩ = some (.int .i64 x.i.kind) ∧ wk.cell? ⟨b', o' + i * 4 + 1, none⟩ = some (.int .i64 x.i.at') ∧ wk.cell? ⟨b', o' + i * 4 + 2, none⟩ = some (.int .i64 x.i.n) ∧ wk.cell? ⟨b', o' + i * 4 + 3, none⟩ = some (.slice y.ao x.i.p.length y.cap)) := fun wk hk => by
        obtain ⟨c0, c1, c2, c3⟩ := hC.grow hk
        obtain ⟨d0, d1, d2, d3⟩ := hD.grow hk
        rw [hq.kind] at d0
        rw [hq.at'] at d1
        rw [hq.n] at d2
        rw [hq.len] at d3
        exact ⟨⟨c0, c1, c2, c3⟩, d0, d1, d2, d3⟩
      unfold Tv.ok at hx hy
      rw [hq.len] at hy
      have hqc := hq.cls
      obtain ⟨xk, hxk⟩ : ∃ xk, x.i.kind = xk := ⟨_, rfl⟩
      obtain ⟨xa, hxa⟩ : ∃ xa, x.i.at' = xa := ⟨_, rfl⟩
      obtain ⟨xn, hxnn⟩ : ∃ xn, x.i.n = xn := ⟨_, rfl⟩
      obtain ⟨l, hxl⟩ : ∃ l, x.i.p.length = l := ⟨_, rfl⟩
      obtain ⟨xo, hxoo⟩ : ∃ xo, x.ao = xo := ⟨_, rfl⟩
      obtain ⟨xc, hxc⟩ : ∃ xc, x.cap = xc := ⟨_, rfl⟩
      obtain ⟨yo, hyoo⟩ : ∃ yo, y.ao = yo := ⟨_, rfl⟩
      obtain ⟨yc, hyc⟩ : ∃ yc, y.cap = yc := ⟨_, rfl⟩
      obtain ⟨F, hF⟩ : ∃ F, Cls.at' x.i.p = F := ⟨_, rfl⟩
      obtain ⟨G, hG⟩ : ∃ G, Cls.at' y.i.p = G := ⟨_, rfl⟩
      rw [hxk, hxa, hxnn, hxl, hxoo, hxc, hyoo, hyc] at HCC
      rw [hxl, hxoo, hF] at hx
      rw [hxl, hyoo, hG] at hy
      rw [hxl, hF, hG] at hqc
      have hl2 : l ≤ 4398046511104 := hx.small
      have HX : Hid (∀ wk, Below w.heap.size w wk → Lf wk xo l F) := fun wk hk => hx.grow hk
      have HY : Hid (∀ wk, Below w.heap.size w wk → Lf wk yo l G) := fun wk hk => hy.grow hk
      have HQC : Hid _ := hqc
      obtain ⟨⟨c0, c1, c2, c3⟩, d0, d1, d2, d3⟩ := HCC.out wr hbel
      clear hx hy hqc hq hC hD hbel hxk hxa hxnn hxl hxoo hxc hyoo hyc hF hG h1 h2
      clear x y
      go_wp2_with fail
      go_quiet (fail)
      have HB3 : Hid (Below w.heap.size w (wr.drewN nq)) := below_drewN HB.out nq
      clear c0 c1 c2 c3 d0 d1 d2 d3 HB
      go_wp2_with fail
      go_loopw [6] (fun vj wk => Below w.heap.size w wk ∧ ∃ j : Nat, j ≤ l ∧ vj = .int .i64 (j : Int)) (fun vj _ => l - (intOf vj).toNat)
      case atStart => exact ⟨HB3.out, 0, Nat.zero_le _, rfl⟩
      case round =>
        obtain ⟨hbel, j, hj, rfl⟩ := hrel
        have HB : Hid _ := hbel
        obtain ⟨⟨c0, c1, c2, c3⟩, d0, d1, d2, d3⟩ := HCC.out _ hbel
        clear c0 c1 c2 d0 d1 d2
        by_cases hjl : j < l
        · have hjI : (j : Int) < (l : Int) := by omega
          obtain ⟨pb, po, rfl, _, hC⟩ := (HX.out _ hbel).lies (by omega)
          obtain ⟨qb, qo, rfl, _, hD⟩ := (HY.out _ hbel).lies (by omega)
          obtain ⟨e0, e1, e2, e3⟩ := hC.four hjl
          obtain ⟨f0, f1, f2, f3⟩ := hD.four hjl
          have hs := HQC.out j hjl
          generalize F j = f at *
          generalize G j = gg at *
          clear hC hD hbel
          go_wp2_with fail
          go_quiet (fail)
          have HB4 : Hid (Below w.heap.size w _) := below_drewN HB.out nq
          try simp only [hs]
          go_wp2_with fail
          go_roundw
          case rel => exact ⟨HB4.out, j + 1, by omega, by go_num⟩
          case measure => simp [intOf]; omega
        · obtain rfl : j = l := by omega
          clear hbel
          go_wp2_with fail
          go_roundw
          case rel => exact ⟨HB.out, i + 1, by omega, by go_num⟩
          case measure => simp [intOf]; omega
    · obtain rfl : i = n := by omega
      go_wp2_with fail
      go_ret
      exact ⟨rfl, HB.out⟩

end Cls
end Go.Proofs.YtljahelbbafhlaaDoor
