/- A text in two pieces: the counts of the second piece; a row cut behind; two texts in a box. -/
import Derived.Test.YtlogdjhnhnfbkaaDoorSpC
import Derived.Test.YtlogdjhnhnfbkaaDoorSpOpen
import Derived.Laws.Concat
import Derived.SizedLaws
namespace Go.Proofs.YtlogdjhnhnfbkaaDoor
open Go.ChangeShapes Go.WideShapes Go.ChangeAt Go.RowKit Go.Maps Res
namespace Cls

theorem byt_tail (s u : ByteArray) (t : Nat) (h : t < u.size) : byt (s ++ u) (s.size + t) = byt u t := by
  have h2 : s.size + t < (s ++ u).size := by rw [ByteArray.size_append]; omega
  rw [byt_at (s ++ u) _ h2, byt_at u t h, ByteArray.getElem_append_right (by omega)]
  congr 2
  omega

theorem mis_tail (P : Nat → Nat → Bool) (s u : ByteArray) (i n : Nat) (h : i + n ≤ u.size) : mis P (s ++ u) (s.size + i) n = mis P u i n :=
  mis_congr n (fun t ht => by rw [Nat.add_assoc, byt_tail s u (i + t) (by omega)])

theorem stn_tail (P : Nat → Nat → Bool) (n : Nat) (K : Int) (s u : ByteArray) : stn P n K u.size ≤ stn P n K (s ++ u).size ∧ (1 ≤ stn P n K u.size → stn P n K (s ++ u).size = s.size + stn P n K u.size) := by
  rw [ByteArray.size_append]
  unfold stn
  by_cases hr : rgt P n K = true
  · by_cases h : n ≤ u.size
    · rw [if_pos ⟨hr, h⟩, if_pos ⟨hr, by omega⟩]
      exact ⟨by omega, fun _ => by omega⟩
    · rw [if_neg (fun hh => h hh.2)]
      exact ⟨by omega, fun h => by omega⟩
  · rw [if_neg (fun hh => hr hh.1), if_neg (fun hh => hr hh.1)]
    exact ⟨by omega, fun h => by omega⟩

theorem cts_tail (P : Nat → Nat → Bool) (n : Nat) (K : Int) (s u : ByteArray) {d : Nat} (hd : (cts P n K (s ++ u)).length = d + (cts P n K u).length) (t : Nat) (ht : t < (cts P n K u).length) (h2 : d + t < (cts P n K (s ++ u)).length) : (cts P n K (s ++ u))[d + t] = (cts P n K u)[t] := by
  rw [cts_len, cts_len] at hd
  rw [cts_len] at ht
  have h3 := (stn_tail P n K s u).2 (by omega)
  obtain rfl : d = s.size := by omega
  rw [cts_at, cts_at]
  exact mis_tail P s u t n (by have := (stn_lt.1 ht).2; omega)

/-- A row of places at some offset. -/
def Io (w : World) (ao : Option Addr) (L : List Nat) : Prop := 1 ≤ L.length → ∃ b o, ao = some ⟨b, o, none⟩ ∧ b < w.heap.size ∧ ∀ t, (h : t < L.length) → w.cell? ⟨b, o + t, none⟩ = some (.int .i64 ((L[t] : Nat) : Int))

theorem Io.grow {w w' : World} {ao : Option Addr} {L : List Nat} (h : Io w ao L) (hb : Below w.heap.size w w') : Io w' ao L := fun hn => by
  obtain ⟨b, o, e, hlt, hc⟩ := h hn
  exact ⟨b, o, e, Nat.lt_of_lt_of_le hlt hb.size, fun t ht => (hb.cell (p := ⟨b, o + t, none⟩) hlt).trans (hc t ht)⟩

/-- A row, cut in front: as many as L are left. -/
theorem Is.cut {w : World} {ao : Option Addr} {M L : List Nat} {d c : Nat} (h : Is w ao M) (hd : M.length = d + L.length) (hc : d + L.length ≤ c) (he : ∀ t, (ht : t < L.length) → (h2 : d + t < M.length) → M[d + t] = L[t]) :
    Io w (if c = d then ao else ao.map (·.add (d * 1))) L := fun hn => by
  obtain ⟨b, rfl, hlt, hcell⟩ := h (by omega)
  rw [if_neg (by omega)]
  refine ⟨b, d, ?_, hlt, fun t ht => ?_⟩
  · simp [Option.map, Addr.add]
    omega
  · rw [hcell (d + t) (by omega), he t ht (by omega)]

theorem is_part {w : World} {ao : Option Addr} {L L' : List Nat} (h : Is w ao L') (hp : L <+: L') : Is w ao L := fun hn => by
  obtain ⟨b, e, hlt, hc⟩ := h (Nat.le_trans hn hp.length_le)
  refine ⟨b, e, hlt, fun t ht => ?_⟩
  rw [hc t (Nat.lt_of_lt_of_le ht hp.length_le), hp.getElem ht]

theorem cts_part (P : Nat → Nat → Bool) (n : Nat) (K : Int) (s u : ByteArray) : cts P n K s <+: cts P n K (s ++ u) := by
  obtain ⟨h1, h2⟩ := cts_more P n K s u
  have e : cts P n K s = (List.range (stn P n K s.size)).map fun i => mis P (s ++ u) i n := List.map_congr_left (fun i hi => (h2 i (by simpa using hi)).symm)
  rw [e]
  unfold cts
  refine List.IsPrefix.map _ ?_
  refine ⟨List.range' (stn P n K s.size) (stn P n K (s ++ u).size - stn P n K s.size), ?_⟩
  rw [List.range_eq_range', List.range_eq_range']
  have := List.range'_append_1 (s := 0) (m := stn P n K s.size) (n := stn P n K (s ++ u).size - stn P n K s.size)
  rw [Nat.zero_add] at this
  rw [this]
  congr 1
  omega

set_option maxHeartbeats 1000000 in
theorem places_off (L : List Nat) (n : Nat) (hn : L.length = n) (hL : n ≤ 4398046511104) (d e' : Nat) (ao bo : Option Addr) (w : World) (hl : Io w ao L) (hm : Is w bo L) :
    Calls Tryd.prog 14 #[.slice ao n d, .slice bo n e'] w fun e w' => e = .returned (.bool true) ∧ Below w.heap.size w w' := by
  have HL : Hid _ := hl
  have HM : Hid _ := hm
  have HN : Hid _ := hn
  clear hl hm hn
  go_enter Tryd.func14, Tryd.ntmps14
  go_wp2_with fail
  go_loopw [5] (fun vk wr => Below w.heap.size w wr ∧ ∃ k : Nat, k ≤ n ∧ vk = .int .i64 k) (fun vk _ => n - (intOf vk).toNat)
  case atStart => exact ⟨Below.refl _ _, 0, Nat.zero_le _, rfl⟩
  case round =>
    obtain ⟨hbel, k, hk, rfl⟩ := hrel
    have HB : Hid _ := hbel
    have HLr : Hid (Io wr ao L) := Io.grow HL.out hbel
    have HMr : Hid (Is wr bo L) := Is.grow HM.out hbel
    clear hbel
    by_cases hkn : k < n
    · have h1 : k < L.length := by rw [HN.out]; exact hkn
      obtain ⟨b, o, rfl, hb, hC⟩ := HLr.out (by omega)
      obtain ⟨b', rfl, hb', hD⟩ := HMr.out (by omega)
      have c0 := hC k h1
      have d0 := hD k h1
      have hkI : (k : Int) < (n : Int) := by omega
      clear hC hD
      generalize L[k] = x at *
      go_wp2_with fail
      go_quiet (fail)
      have HB3 : Hid (Below w.heap.size w (wr.drewN nq)) := below_drewN HB.out nq
      go_wp2_with fail
      go_roundw
      case rel => exact ⟨HB3.out, k + 1, by omega, by go_num⟩
      case measure => simp [intOf]; omega
    · obtain rfl : k = n := by omega
      go_wp2_with fail
      go_ret
      exact ⟨rfl, HB.out⟩

/-- Two texts in a box. -/
structure Zt (w : World) (g : Nat) (s u : ByteArray) : Prop where
  c0 : w.cell? ⟨g, 0, none⟩ = some (.string s)
  c1 : w.cell? ⟨g, 1, none⟩ = some (.string u)

theorem zt_new (w : World) (s u : ByteArray) : Zt (w.alloc (.cells #[.string s, .string u] 45)) w.heap.size s u := by
  have hb : (w.alloc (.cells #[.string s, .string u] 45)).heap[w.heap.size]? = some (.cells #[.string s, .string u] 45) := World.alloc_heap_new w _
  refine ⟨?_, ?_⟩
  all_goals
    unfold World.cell?
    rw [hb]
    rfl

set_option maxRecDepth 100000 in
/-- Two texts, each no longer than can be reached. -/
theorem open_texts_sized {H : Type} {enc : TypeId × Value → H} {W : World} {base : Nat} {r : Reach} {b0 : Nat} {spare : Nat → Bool} {held : Bool} {v : Value} {d : DataW H} {p : List MemPlace} (hv : Value.okWide Tryd.prog W r b0 45 v) (h : DataW.Trod enc Tryd.prog W base spare held 45 v d p)
    (hw : (d.weights Tryd.prog 45).all (· ≤ reachBytes) = true) :
    ∃ s u : ByteArray, v = .agg #[.string s, .string u] ∧ s.size ≤ reachBytes ∧ u.size ≤ reachBytes := by
  have hct : Tryd.prog.cellsOf 45 = 2 := by kernel_rfl
  have hce : Tryd.prog.cellsOf 9 = 1 := by kernel_rfl
  obtain ⟨cs, rfl, hsz⟩ := okWide_arr Tryd.underlying45 hv
  rw [hct] at hsz
  obtain ⟨fuel, hf⟩ := h
  obtain ⟨xs, m, rfl, hx, hlen, hxl, hel⟩ := DataW.trod_array Tryd.underlying45 hf
  have each : ∀ i, i < 2 → ∃ s : ByteArray, cs[i]? = some (.string s) ∧ xs[i]? = some (.lit (.string s.data.toList), []) := by
    intro i hi
    have h1 := hel i hi
    rw [List.getElem?_eq_getElem (by omega)] at h1
    obtain ⟨s, hc, hxx, hs⟩ := DataW.trod_string Tryd.underlying9 h1
    refine ⟨s, ?_, by rw [List.getElem?_eq_getElem (by omega), hxx]⟩
    have := congrArg (·[0]?) hc
    simpa [List.getElem?_take, List.getElem?_drop, hce, Value.cells] using this
  obtain ⟨s, h0, x0⟩ := each 0 (by omega)
  obtain ⟨u, h1, x1⟩ := each 1 (by omega)
  have hxs : xs = [(.lit (.string s.data.toList), []), (.lit (.string u.data.toList), [])] := by
    apply List.ext_getElem?
    intro i
    match i with
    | 0 => rw [x0]; rfl
    | 1 => rw [x1]; rfl
    | i + 2 => rw [List.getElem?_eq_none (by omega), List.getElem?_eq_none (by simp)]
  have hd : d = .agg [.lit (.string s.data.toList), .lit (.string u.data.toList)] := by
    have := (Prod.mk.inj hx).1
    rw [this, hxs]
    rfl
  rw [hd] at hw
  have hu : Tryd.prog.underlying 45 = some (.array 2 9) := Tryd.underlying45
  simp [DataW.weights, hu, DataW.weightsAll] at hw
  refine ⟨s, u, ?_, hw.1, hw.2⟩
  congr 1
  apply Array.ext_getElem?
  intro i
  match i with
  | 0 => rw [h0]; rfl
  | 1 => rw [h1]; rfl
  | i + 2 => rw [Array.getElem?_eq_none (by omega), Array.getElem?_eq_none (by simp)]

end Cls
end Go.Proofs.YtlogdjhnhnfbkaaDoor
