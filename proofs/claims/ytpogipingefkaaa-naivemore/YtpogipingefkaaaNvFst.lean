/- Contract of naive.First. -/
import Derived.Test.YtpogipingefkaaaNvCol
namespace Go.Proofs.Ytpogipingefkaaa
open Go.RowKit Go.Shelf
namespace Cls

theorem results_two {fn : Func} {p q : Tmp} (h : fn.results = #[.cell p 3, .cell q 4]) (tmps : Array Value) (v : World) (a b : Nat) (x : Int) (y : Bool) (hp : tmps.getD p undef = .pointer (some ⟨a, 0, none⟩)) (hq : tmps.getD q undef = .pointer (some ⟨b, 0, none⟩))
    (c0 : v.cell? ⟨a, 0, none⟩ = some (.int .i64 x)) (c1 : v.cell? ⟨b, 0, none⟩ = some (.bool y)) : (results fn tmps).run Try.prog v = .ok (.tuple #[.int .i64 x, .bool y]) v := by
  have hp' : tmps[p]?.getD undef = .pointer (some ⟨a, 0, none⟩) := by simpa using hp
  have hq' : tmps[q]?.getD undef = .pointer (some ⟨b, 0, none⟩) := by simpa using hq
  simp [results, h, hp', hq', asAddr, go_sem, c0, c1]

theorem range_from (x : Int) (m : Nat) : (List.range m).filter (fun i : Nat => decide (x ≤ (i : Int))) = plc x.toNat m := by
  induction m with
  | zero => simp [plc]
  | succ m ih =>
    rw [List.range_succ, List.filter_append, ih]
    by_cases h : x ≤ (m : Int)
    · have e : m + 1 - x.toNat = (m - x.toNat) + 1 := by omega
      unfold plc
      rw [e, List.range'_concat]
      simp [h]
    · have e : m + 1 - x.toNat = 0 := by omega
      have e2 : m - x.toNat = 0 := by omega
      unfold plc
      rw [e, e2]
      simp [h]

/-- The first of what is found from a place on. -/
theorem fst_flt (P : Nat → Nat → Bool) (n : Nat) (K x : Int) (s : ByteArray) : fst' (fnd P n K s) x = (flt P n K s (plc x.toNat (stn P n K s.size))).head? := by
  unfold fst'
  rw [← List.head?_filter]
  congr 1
  rw [fnd, ← range_from x, show plc 0 (stn P n K s.size) = List.range (stn P n K s.size) by unfold plc; rw [Nat.sub_zero, List.range_eq_range']]
  unfold flt
  rw [List.filter_filter, List.filter_filter]
  refine List.filter_congr (fun i _ => ?_)
  simp [Bool.and_comm]

set_option maxRecDepth 100000 in
set_option maxHeartbeats 2000000 in
theorem first_any (P : Nat → Nat → Bool) (n cap : Nat) (ao : Option Addr) (K x : Int) (s : ByteArray) (hs : s.size ≤ 1000000) (hx : x ≤ 9223372036854775807) (w : World) (hl : Lf w ao n P) :
    Calls Try.prog 16 #[.agg #[.slice ao n cap, .int .i64 K], .string s, .int .i64 x] w fun e w' => e = .returned (.tuple #[.int .i64 (((fst' (fnd P n K s) x).getD 0 : Nat) : Int), .bool (fst' (fnd P n K s) x).isSome]) ∧ Below w.heap.size w w' := by
  rw [fst_flt]
  obtain ⟨w1, b1⟩ := lbox w (.slice ao n cap) (.int .i64 K)
  obtain ⟨w2, e2⟩ : ∃ w2, w2 = w1.alloc (.cells #[.int .i64 0] 3) := ⟨_, rfl⟩
  obtain ⟨w3, e3⟩ : ∃ w3, w3 = w2.alloc (.cells #[.bool false] 4) := ⟨_, rfl⟩
  have z1 := b1.size
  have z2 : w2.heap.size = w.heap.size + 1 + 1 := by rw [e2, World.size_alloc, z1]
  have z3 : w3.heap.size = w.heap.size + 1 + 1 + 1 := by rw [e3, World.size_alloc, z2]
  have x2 : Boxed w2 (w.heap.size + 1) 3 (.int .i64 0) := by rw [e2, ← z1]; exact Boxed.new w1 _ _
  have x3 : Boxed w3 (w.heap.size + 1 + 1) 4 (.bool false) := by rw [e3, ← z2]; exact Boxed.new w2 _ _
  have x23 : Boxed w3 (w.heap.size + 1) 3 (.int .i64 0) := by rw [e3]; exact x2.alloc _
  have b12 : Below w1.heap.size w1 w2 := by rw [e2]; exact (Below.refl _ _).alloc (Nat.le_refl _) _
  have b23 : Below w2.heap.size w2 w3 := by rw [e3]; exact (Below.refl _ _).alloc (Nat.le_refl _) _
  have b13 : Below w1.heap.size w1 w3 := b12.trans (b23.mono b12.size)
  have c0 : w3.cell? ⟨w.heap.size, 0, none⟩ = some (.slice ao n cap) := (b13.cell (p := ⟨w.heap.size, 0, none⟩) (by show w.heap.size < _; omega)).trans b1.c0
  have c1 : w3.cell? ⟨w.heap.size, 1, none⟩ = some (.int .i64 K) := (b13.cell (p := ⟨w.heap.size, 1, none⟩) (by show w.heap.size < _; omega)).trans b1.c1
  have B3 : Hid (Below w.heap.size w w3) := b1.bel.trans (b13.mono (by omega))
  have cc : Hid _ := found_made n cap ao P K x s w3 (hl.grow B3.out)
  have E3 : Hid (w3 = ((w.alloc (.cells #[.slice ao n cap, .int .i64 K] 24)).alloc (.cells #[.int .i64 0] 3)).alloc (.cells #[.bool false] 4)) := by show _ = _; rw [e3, e2, b1.eq]
  have XX : Hid (Boxed w3 (w.heap.size + 1) 3 (.int .i64 0) ∧ Boxed w3 (w.heap.size + 1 + 1) 4 (.bool false)) := ⟨x23, x3⟩
  have Z3 : Hid _ := z3
  have HL : Hid _ := hl
  clear b1 hl e2 e3 z1 z2 z3 x2 x3 x23 b12 b23 b13
  refine (callsIn_wide (n := 9)).1 (callsIn_of_wp_marks Try.func16 rfl trivial ?_ rfl)
  refine wpIn_wide.2 ?_
  simp only [Try.ntmps16, List.size_toArray, List.length_cons, List.length_nil, Nat.reduceAdd, Nat.reduceSub, Array.replicate_succ, Array.replicate_zero, List.push_toArray, List.append_toArray, List.nil_append, List.cons_append]
  go_wp2_with (first | rw [← E3.out])
  refine Calls.mono (Hid.out cc) ?_; rintro e w4 ⟨rfl, c4, b4⟩
  have hsq := found_seq _ _ _ n cap ao P K x s hs hx w4 c4
  have z34 := b4.size
  have XX4 : Hid (Boxed w4 (w.heap.size + 1) 3 (.int .i64 0) ∧ Boxed w4 (w.heap.size + 1 + 1) 4 (.bool false)) := ⟨(b4.block _ (by have := Z3.out; omega)).trans XX.out.1, (b4.block _ (by have := Z3.out; omega)).trans XX.out.2⟩
  have B4 : Hid (Below w.heap.size w w4) := B3.out.trans (b4.mono (by have := Z3.out; omega))
  have hAl : Hid (∀ k, Blk3 w3.heap.size (w3.heap.size + 1) (w3.heap.size + 1 + 1) ao n k → k ≠ w.heap.size + 1 ∧ k ≠ w.heap.size + 1 + 1) := by
    have hz := Z3.out
    rintro k (h | h | h | ⟨hn, o, h⟩)
    · omega
    · omega
    · omega
    · obtain ⟨b, o', e, hlt, _⟩ := HL.out.2 hn
      rw [e] at h
      cases h
      omega
  have r6 : w.heap.size + 1 < w4.heap.size := by have := Z3.out; omega
  have r7 : w.heap.size + 1 + 1 < w4.heap.size := by have := Z3.out; omega
  clear c0 c1 cc E3 XX HL B3 b4
  go_wp2_with fail
  refine (wpIn_wide (n := 9)).1 ?_
  refine' wp_seq (gf := 37) rfl (enters_of Try.func37 (by kernel_rfl) rfl) hsq (fun _ => rfl) (fun k h => c4.lt h)
    (fun pre M W => (pre = [] ∧ (Boxed W (w.heap.size + 1) 3 (.int .i64 0) ∧ ¬ M (w.heap.size + 1)) ∧ (Boxed W (w.heap.size + 1 + 1) 4 (.bool false) ∧ ¬ M (w.heap.size + 1 + 1))) ∧ Below w.heap.size w W)
    (fun c pre M W => (c = .ret ∧ ∃ y : Nat, pre = [y] ∧ (Boxed W (w.heap.size + 1) 3 (.int .i64 (y : Int)) ∧ ¬ M (w.heap.size + 1)) ∧ (Boxed W (w.heap.size + 1 + 1) 4 (.bool true) ∧ ¬ M (w.heap.size + 1 + 1))) ∧ Below w.heap.size w W)
    ?abid ?abidx
    ?start
    (fun i => { tmps := #[.agg #[.slice ao n cap, .int .i64 K], .string s, .int .i64 x, .pointer (some ⟨w.heap.size, 0, none⟩), undef, undef, .pointer (some ⟨w.heap.size + 1, 0, none⟩), .pointer (some ⟨w.heap.size + 1 + 1, 0, none⟩), .int .i64 (i : Int), .agg #[.slice ao n cap, .int .i64 K], .string s, .int .i64 x, .func (.func 37) #[] #[.pointer (some ⟨w3.heap.size, 0, none⟩), .pointer (some ⟨w3.heap.size + 1, 0, none⟩), .pointer (some ⟨w3.heap.size + 1 + 1, 0, none⟩)], .int .i64 (i : Int), undef], defers := [] }) ?assign ?body ?done ?stop
  case abid => exact ((Abid.pure _).and ((boxed_abid _ _ _ _).and (boxed_abid _ _ _ _))).and (Abid.below (Nat.le_refl _) (by omega))
  case abidx =>
    rintro c s M M' W W' ⟨⟨hc, y, e, h6, h7⟩, hb⟩ hf hm
    exact ⟨⟨hc, y, e, boxed_abid _ _ _ _ () M M' W W' h6 hf hm, boxed_abid _ _ _ _ () M M' W W' h7 hf hm⟩, Abid.below (β := Unit) (Nat.le_refl _) (by omega) () M M' W W' hb hf hm⟩
  case start => exact ⟨⟨rfl, ⟨XX4.out.1, fun h => (hAl.out _ h).1 rfl⟩, ⟨XX4.out.2, fun h => (hAl.out _ h).2 rfl⟩⟩, B4.out⟩
  case assign =>
    intro l' x' V' K' hK
    clear hsq c4 XX4 B4 hAl Z3
    gi_wp2
    exact hK
  case stop =>
    rintro D c pre V hD hp ⟨⟨rfl, y, rfl, ⟨h6, _⟩, ⟨h7, _⟩⟩, hb⟩ hK
    have HK : Hid _ := hK
    have HX : Hid (Boxed V (w.heap.size + 1) 3 (.int .i64 (y : Int)) ∧ Boxed V (w.heap.size + 1 + 1) 4 (.bool true) ∧ Below w.heap.size w V) := ⟨h6, h7, hb⟩
    have eh : (flt P n K s (plc x.toNat (stn P n K s.size))).head? = some y := by
      obtain ⟨t, ht⟩ := hp
      rw [← ht]
      rfl
    have EH : Hid _ := eh
    clear hsq c4 XX4 B4 hAl Z3 hK h6 h7 hb eh
    gi_wp2
    refine ⟨by simp, .inl ⟨_, _, rfl, run_takeDeferred HK.out, ?_⟩⟩
    have k6 : (V.putObj D (.deferred none)).cell? ⟨w.heap.size + 1, 0, none⟩ = some (.int .i64 (y : Int)) := (show Boxed _ _ _ _ from (World.putObj_heap_other (by omega)).trans HX.out.1).cell
    have k7 : (V.putObj D (.deferred none)).cell? ⟨w.heap.size + 1 + 1, 0, none⟩ = some (.bool true) := (show Boxed _ _ _ _ from (World.putObj_heap_other (by omega)).trans HX.out.2.1).cell
    refine ⟨_, results_two rfl _ _ _ _ _ _ rfl rfl k6 k7, by rw [EH.out]; rfl, HX.out.2.2.trans (belowK_b (w := w) (Nat.le_refl _) V D _ _ (by omega) HK.out rfl rfl)⟩
  case done =>
    rintro D V hD ⟨⟨e0, ⟨h6, _⟩, ⟨h7, _⟩⟩, hb⟩ hK
    have HK : Hid (V.heap[D]? = some (.deferred (some []))) := hK
    have HX : Hid (Boxed V (w.heap.size + 1) 3 (.int .i64 0) ∧ Boxed V (w.heap.size + 1 + 1) 4 (.bool false) ∧ Below w.heap.size w V) := ⟨h6, h7, hb⟩
    have EH : Hid _ := e0
    have q6 := h6.cell
    have q7 := h7.cell
    have f6 := h6.frozen
    have f7 := h7.frozen
    clear hsq c4 XX4 B4 hAl Z3 hK h6 h7 hb e0
    go_wp2_with fail
    obtain ⟨V1, hV1⟩ : ∃ V1, V1 = (V.setCell ⟨w.heap.size + 1, 0, none⟩ (.int .i64 0)).setCell ⟨w.heap.size + 1 + 1, 0, none⟩ (.bool false) := ⟨_, rfl⟩
    rw [← hV1]
    have k6 : Boxed V1 (w.heap.size + 1) 3 (.int .i64 0) := by rw [hV1]; exact (HX.out.1.set _).other (by omega) _
    have k7 : Boxed V1 (w.heap.size + 1 + 1) 4 (.bool false) := by rw [hV1]; exact (HX.out.2.1.other (by omega) _).set _
    have kD : V1.heap[D]? = some (.deferred (some [])) := by rw [hV1, Below.heap_setCell _ _ _ _ (by show D ≠ w.heap.size + 1 + 1; omega), Below.heap_setCell _ _ _ _ (by show D ≠ w.heap.size + 1; omega)]; exact HK.out
    have kb : Below w.heap.size w V1 := by rw [hV1]; exact (HX.out.2.2.setCell (p := ⟨w.heap.size + 1, 0, none⟩) (by show _ ≤ w.heap.size + 1; omega) _).setCell (p := ⟨w.heap.size + 1 + 1, 0, none⟩) (by show _ ≤ w.heap.size + 1 + 1; omega) _
    refine ⟨by simp, .inl ⟨_, _, rfl, run_takeDeferred kD, ?_⟩⟩
    have j6 : (V1.putObj D (.deferred none)).cell? ⟨w.heap.size + 1, 0, none⟩ = some (.int .i64 0) := (show Boxed _ _ _ _ from (World.putObj_heap_other (by omega)).trans k6).cell
    have j7 : (V1.putObj D (.deferred none)).cell? ⟨w.heap.size + 1 + 1, 0, none⟩ = some (.bool false) := (show Boxed _ _ _ _ from (World.putObj_heap_other (by omega)).trans k7).cell
    refine ⟨_, results_two rfl _ _ _ _ _ _ rfl rfl j6 j7, by rw [EH.out]; rfl, kb.trans (belowK_b (w := w) (Nat.le_refl _) V1 D _ _ (by omega) kD rfl rfl)⟩
  case body =>
    rintro lp pre M i V ⟨⟨rfl, ⟨h6, m6⟩, ⟨h7, m7⟩⟩, hb⟩ hMV hp
    have HX : Hid (Boxed V (w.heap.size + 1) 3 (.int .i64 0) ∧ Boxed V (w.heap.size + 1 + 1) 4 (.bool false) ∧ Below w.heap.size w V) := ⟨h6, h7, hb⟩
    have HM : Hid (¬ M (w.heap.size + 1) ∧ ¬ M (w.heap.size + 1 + 1)) := ⟨m6, m7⟩
    have q6 := h6.cell
    have q7 := h7.cell
    have f6 := h6.frozen
    have f7 := h7.frozen
    clear hsq c4 XX4 B4 hAl Z3 h6 h7 hb m6 m7 hMV hp
    gi_wp2
    refine ⟨((Fr.refl M V).setCell (p := ⟨w.heap.size + 1, 0, none⟩) HM.out.1 _).setCell (p := ⟨w.heap.size + 1 + 1, 0, none⟩) HM.out.2 _, ⟨rfl, i, rfl, ⟨(HX.out.1.set _).other (by omega) _, HM.out.1⟩, ⟨(HX.out.2.1.other (by omega) _).set _, HM.out.2⟩⟩, ?_⟩
    exact (HX.out.2.2.setCell (p := ⟨w.heap.size + 1, 0, none⟩) (by show _ ≤ w.heap.size + 1; omega) _).setCell (p := ⟨w.heap.size + 1 + 1, 0, none⟩) (by show _ ≤ w.heap.size + 1 + 1; omega) _
end Cls
end Go.Proofs.Ytpogipingefkaaa
