/- One row of classes behind another one: what append makes of them. -/
import Derived.Test.YtbnnobeahliffaaGreatDoorNvLaw
import Derived.Test.YtbnnobeahliffaaGreatDoorLfA
import Derived.ArgAppend
namespace Go.Proofs.YtbnnobeahliffaaGreatDoor
open Go.RowKit
namespace Cls

def rwl (P : Nat → Nat → Bool) (n : Nat) : List (Nat → Bool) := (List.range n).map P

theorem rwl_len (P : Nat → Nat → Bool) (n : Nat) : (rwl P n).length = n := by simp [rwl]

theorem rwl_at (P : Nat → Nat → Bool) (n t : Nat) (h : t < n) : at' (rwl P n) t = P t := by
  rw [at_get (by rw [rwl_len]; exact h)]
  simp [rwl]

theorem rwl_two (P Q : Nat → Nat → Bool) (n m t : Nat) (h : t < n + m) : at' (rwl P n ++ rwl Q m) t = bhd P n Q t := by
  unfold at' bhd
  rw [List.getD_eq_getElem?_getD]
  by_cases ht : t < n
  · rw [if_pos ht, List.getElem?_append_left (by rw [rwl_len]; exact ht)]
    simp [rwl, ht]
  · rw [if_neg ht, List.getElem?_append_right (by rw [rwl_len]; omega), rwl_len]
    simp [rwl, show t - n < m by omega]

theorem cl_cells {w : World} {b o n : Nat} {P : Nat → Nat → Bool} (h : Cl w b o n P) (j : Nat) (u : Value) (hu : (cls (rwl P n))[j]? = some u) : w.cell? ((⟨b, o, none⟩ : Addr).add j) = some u := by
  have hj : j < n * 4 := by
    have := (List.getElem?_eq_some_iff.1 hu).1
    rw [cls_len, rwl_len] at this
    exact this
  have e := cls_at (rwl P n) (j / 4) (j % 4) (by rw [rwl_len]; omega) (by omega)
  rw [show j / 4 * 4 + j % 4 = j by omega, hu, rwl_at P n (j / 4) (by omega)] at e
  rw [add_none, e]
  have := h (j / 4) (by omega) (j % 4) (by omega)
  rwa [show o + j / 4 * 4 + j % 4 = o + j by omega] at this

theorem cls_one (L : List (Nat → Bool)) : ∀ u ∈ cls L, u.oneCell' = true := by
  intro u hu
  simp [cls] at hu
  obtain ⟨f, _, rfl | rfl | rfl | rfl⟩ := hu <;> rfl

theorem app4 (ao bo : Option Addr) (n m dap : Nat) (P Q : Nat → Nat → Bool) (w : World) (hl : Lf w ao n P) (hr : Lf w bo m Q) (hs : n + m ≤ 1048576) :
    ∃ go gc w1, (Builtin.append_ #[32, 32] 32 #[.slice ao n n, .slice bo m dap]).run Tryz.prog w = .ok (.slice go (n + m) gc) w1 ∧ Lf w1 go (n + m) (bhd P n Q) ∧ Below w.heap.size w w1 ∧ (1 ≤ n + m → ∀ b o, go = some ⟨b, o, none⟩ → w.heap.size ≤ b ∨ (1 ≤ n ∧ ao = some ⟨b, o, none⟩)) := by
  obtain ⟨i0, hi, hz0, hz1, hz2⟩ := infoC
  by_cases h0 : m = 0
  · subst h0
    refine ⟨ao, n, w, ?_, ⟨by omega, fun hn => ?_⟩, Below.refl _ _, fun hn b o e => .inr ⟨by omega, e⟩⟩
    · cases ao <;> cases bo <;> simp [Builtin.append_, run_underlying Tryz.underlying32, sizeOf, typeInfo, hi, Builtin.lenOf, Builtin.firstCells, storeCells, loadCells, loadCellsFrom]
    · obtain ⟨b, o, e, hlt, hc⟩ := hl.lies hn
      exact ⟨b, o, e, hlt, hc.congr (fun t ht => by unfold bhd; rw [if_pos (by omega)])⟩
  · obtain ⟨b2, o2, rfl, hlt2, hc2⟩ := hr.lies (by omega)
    have fin : ∀ v' w', w'.ownsRow w.heap.size 67 4 v' (n + m) (cls (rwl P n) ++ cls (rwl Q m)) → w.grownBy w' none → ∃ go gc, v' = .slice go (n + m) gc ∧ Lf w' go (n + m) (bhd P n Q) ∧ Below w.heap.size w w' ∧ (1 ≤ n + m → ∀ b o, go = some ⟨b, o, none⟩ → w.heap.size ≤ b ∨ (1 ≤ n ∧ ao = some ⟨b, o, none⟩)) := by
      intro v' w' own hg
      have hown0 := own
      rw [← cls_append] at own
      have hlen : (rwl P n ++ rwl Q m).length = n + m := by rw [List.length_append, rwl_len, rwl_len]
      obtain ⟨go, gc, e, hL⟩ := ownC_lf (w := w') (B := w.heap.size) (v := v') (L := rwl P n ++ rwl Q m) (by unfold OwnC; rw [hlen]; exact own) (by omega)
      rw [hlen] at e hL
      refine ⟨go, gc, e, ⟨by omega, fun hn => ?_⟩, (Below.refl _ _).grown hg (Nat.le_refl _) (fun j e => by cases e), fun hn b o eb => ?_⟩
      rotate_left
      · subst e
        subst eb
        rcases hown0.2 with ⟨e1, _⟩ | ⟨g', cap', cur', e1, hge, _⟩
        · cases e1
        · injection e1 with e2
          cases e2
          exact .inl hge
      obtain ⟨b, o, e, hlt, hc⟩ := hL.lies hn
      exact ⟨b, o, e, hlt, hc.congr (fun t ht => rwl_two P Q n m t ht)⟩
    cases ao with
    | none =>
      obtain rfl : n = 0 := by
        by_cases hn : 1 ≤ n
        · obtain ⟨_, _, e, _⟩ := hl.lies hn
          cases e
        · omega
      obtain ⟨v', w', hr', own, hg, _, _⟩ := run_append_own_at (P := Tryz.prog) w w.heap.size 32 32 67 i0 (.agg #[.int .u64 0, .int .u64 0, .int .u64 0, .int .u64 0]) 4 32 Tryz.underlying32 hi hz0 hz1 hz2 rfl (by decide) (.slice none 0 0) 0 [] (World.ownsRow_nil _ _ _ _) ⟨b2, o2, none⟩ m dap (cls (rwl Q m)) (by rw [cls_len, rwl_len]) (cl_cells hc2) (cls_one _) (by unfold maxLen; omega) (by omega) (Nat.le_refl _)
      obtain ⟨go, gc, rfl, q1, q2, q3⟩ := fin v' w' own hg
      exact ⟨go, gc, w', hr', q1, q2, q3⟩
    | some x =>
      have hold : ∀ j u, (cls (rwl P n))[j]? = some u → w.cell? (x.add j) = some u := by
        intro j u hu
        by_cases hn : 1 ≤ n
        · obtain ⟨b, o, e, _, hc⟩ := hl.lies hn
          cases e
          exact cl_cells hc j u hu
        · have := (List.getElem?_eq_some_iff.1 hu).1
          rw [cls_len, rwl_len] at this
          omega
      obtain ⟨v', w', hr', own, hg⟩ := run_append_arg_grows (P := Tryz.prog) w 32 32 67 i0 (.agg #[.int .u64 0, .int .u64 0, .int .u64 0, .int .u64 0]) 4 32 Tryz.underlying32 hi hz0 hz1 hz2 rfl (by decide) x n n (cls (rwl P n)) (by rw [cls_len, rwl_len]) hold ⟨b2, o2, none⟩ m dap (cls (rwl Q m)) (by rw [cls_len, rwl_len]) (cl_cells hc2) (by omega) (by unfold maxLen; omega) (by omega)
      obtain ⟨go, gc, rfl, q1, q2, q3⟩ := fin v' w' own hg
      exact ⟨go, gc, w', hr', q1, q2, q3⟩

theorem lbox_fz (w : World) (x y : Value) (t : Nat) : (w.alloc (.cells #[x, y] 34)).frozen? ⟨w.heap.size, t, none⟩ = false := by
  unfold World.frozen?
  rw [show (w.alloc (.cells #[x, y] 34)).heap[w.heap.size]? = some (.cells #[x, y] 34) from World.alloc_heap_new w _]
  simp

/-- A new box, written. -/
theorem put2_new {w w' : World} {x y u v : Value} (hb : Below w.heap.size w w') (o : Nat) (c0 : w'.cell? ⟨o, 0, none⟩ = some x) (c1 : w'.cell? ⟨o, 1, none⟩ = some y) (ho : w.heap.size ≤ o) :
    (put2 w' o u v).cell? ⟨o, 0, none⟩ = some u ∧ (put2 w' o u v).cell? ⟨o, 1, none⟩ = some v ∧ Below w.heap.size w (put2 w' o u v) :=
  ⟨(put2_cells c0 c1).1, (put2_cells c0 c1).2, hb.trans ((put2_wrote u v).below (fun b' _ e => by omega))⟩

theorem Lf.put {w : World} {ao : Option Addr} {n o : Nat} {P : Nat → Nat → Bool} (h : Lf w ao n P) (u v : Value) (hne : 1 ≤ n → ∀ b o', ao = some ⟨b, o', none⟩ → b ≠ o) : Lf (put2 w o u v) ao n P :=
  ⟨h.small, fun hn => by
    obtain ⟨b, o', e, hlt, hc⟩ := h.lies hn
    refine ⟨b, o', e, by rw [(put2_wrote u v).size]; exact hlt, fun t ht k hk => ?_⟩
    exact ((put2_wrote u v).cell b _ (by have := hne hn b o' e; omega)).trans (hc t ht k hk)⟩

theorem lf_lt {w : World} {ao : Option Addr} {n : Nat} {P : Nat → Nat → Bool} (h : Lf w ao n P) (hn : 1 ≤ n) {b o : Nat} (e : ao = some ⟨b, o, none⟩) : b < w.heap.size := by
  obtain ⟨b', o', e', hlt, _⟩ := h.lies hn
  rw [e'] at e
  cases e
  exact hlt

/-- Two leaves in boxes, on the way. -/
structure Lv2 (w wk : World) (g g' : Nat) (ao : Option Addr) (n cap : Nat) (P : Nat → Nat → Bool) (K : Int) (bo : Option Addr) (m dap : Nat) (Q : Nat → Nat → Bool) (J : Int) : Prop where
  a : Lv w wk g ao n cap P K
  b : Lv w wk g' bo m dap Q J

theorem Lv2.grow {w wk w' : World} {g g' : Nat} {ao : Option Addr} {n cap : Nat} {P : Nat → Nat → Bool} {K : Int} {bo : Option Addr} {m dap : Nat} {Q : Nat → Nat → Bool} {J : Int} (h : Lv2 w wk g g' ao n cap P K bo m dap Q J) (b : Below wk.heap.size wk w') : Lv2 w w' g g' ao n cap P K bo m dap Q J :=
  ⟨h.a.grow b, h.b.grow b⟩

/-- A region that draws its order. -/
theorem region_plain {P : Program} {ops : Array Oper} {Q : Exit → Act → World → Prop} {id : Nat} {a : Act} {w : World} {S : World → Prop} (hm : P.follows .mixedOrders = true) (h : wpAnyH P .any ops Q S ops.size (Array.replicate ops.size false) a w.drew) : (Code.region id ops true).wp P Q a w :=
  wp_region_any hm (wpAny_of_held _ _ _ _ h)

end Cls
end Go.Proofs.YtbnnobeahliffaaGreatDoor
