/- Parameters: a row of nodes, each leaf no longer than a machine holds. -/
import Derived.Test.YtbnnobeahliffaaGreatDoorQyOpen
import Derived.Test.YtbnnobeahliffaaGreatDoorNvPar
import Derived.Test.YtbnnobeahliffaaGreatDoorQyA
import Derived.SizedLaws
namespace Go.Proofs.YtbnnobeahliffaaGreatDoor
open Go.ChangeShapes Go.WideShapes Go.ChangeAt Go.RowKit
namespace Cls

theorem weights_all_mem {H : Type} {P : Program} {e : TypeId} : ∀ {l : List (DataW H)} {d : DataW H}, d ∈ l → ∀ n ∈ d.weights P e, n ∈ DataW.weightsAll P e l
  | x :: l, d, hd, n, hn => by
    simp only [DataW.weightsAll, List.mem_append]
    rcases List.mem_cons.1 hd with rfl | hd
    · exact Or.inl hn
    · exact Or.inr (weights_all_mem hd n hn)

set_option maxRecDepth 100000 in
/-- A node's leaf. -/
theorem node_sized {H : Type} {enc : TypeId × Value → H} {W : World} {base : Nat} {spare : Nat → Bool} {held : Bool} {fuel : Nat} {cs : List Value} {x : DataW H × List MemPlace} (h : DataW.trod enc Tryz.prog W base spare held fuel 36 cs = some x) (hw : ∀ k ∈ x.1.weights Tryz.prog 36, k ≤ reachBytes)
    (ao : Option Addr) (l cap : Nat) (hc : cs[2]? = some (.slice ao l cap)) : l ≤ 4398046511104 := by
  obtain ⟨y0, y1, y2, n, hx, hl, h0, h1, h2⟩ := Deep.trod_struct3 Tryz.underlying36 h
  have hlen : cs.length = 4 := by rw [hl]; kernel_rfl
  match cs, hlen with
  | [u0, u1, u2, u3], _ =>
    have cl : Tryz.prog.cellsOf 34 = 2 := by kernel_rfl
    simp only [cl] at h2
    obtain ⟨z0, z1, n2, hy, _, g0, g1⟩ := trod_struct2 Tryz.underlying34 h2
    have cs1 : Tryz.prog.cellsOf 32 = 1 := by kernel_rfl
    simp only [cs1] at g0
    have hu : u2 = .slice ao l cap := by simpa using hc
    subst hu
    have hz : ∀ k ∈ z0.1.weights Tryz.prog 32, k ≤ reachBytes := fun k hk => hw k (by
      rw [hx]
      show k ∈ DataW.weights Tryz.prog 36 (.agg [y0.1, y1.1, y2.1])
      unfold DataW.weights
      rw [Tryz.underlying36]
      refine DataW.weights_mem_each (j := 2) (t := 34) (d := y2.1) rfl rfl k ?_
      rw [hy]
      show k ∈ DataW.weights Tryz.prog 34 (.agg [z0.1, z1.1])
      unfold DataW.weights
      rw [Tryz.underlying34]
      exact DataW.weights_mem_each (j := 0) (t := 32) (d := z0.1) rfl rfl k hk)
    rcases Deep.open_slice Tryz.underlying32 g0 with ⟨hcs, _⟩ | ⟨a, len, cap', m, n', D, Pl, hcs, hb, hl, hm, hmm, hde, hx⟩
    · simp at hcs
      omega
    · simp at hcs
      obtain ⟨_, rfl, _⟩ := hcs
      have hbn : Tryz.prog.bytesOf 67 = 32 := by kernel_rfl
      have h9 := hz ((((List.range l).map D).length + ((List.range (m - l)).map fun j => D (l + j)).length) * Tryz.prog.bytesOf 67) (by rw [hde]; simp [DataW.weights, Tryz.underlying32])
      rw [hbn] at h9
      simp only [List.length_map, List.length_range] at h9
      unfold reachBytes at h9
      omega

set_option maxRecDepth 100000 in
/-- A row of nodes, each leaf no longer than a machine holds. -/
theorem open_nodes_sized {H : Type} {enc : TypeId × Value → H} {W : World} {base : Nat} {r : Reach} {b0 : Nat} {spare : Nat → Bool} {held : Bool} {v : Value} {d : DataW H} {p : List MemPlace} (hv : Value.okWide Tryz.prog W r b0 23 v) (h : DataW.Trod enc Tryz.prog W base spare held 23 v d p) (hw : ∀ k ∈ d.weights Tryz.prog 23, k ≤ reachBytes) :
    ∃ so n cap K M ao l c J Q, v = .slice so n cap ∧ Nos W so n K M ao l c J Q ∧ (∀ t, t < n → l t ≤ 4398046511104) ∧ n ≤ 4398046511104 ∧ n ≤ cap ∧ cap ≤ 9223372036854775807 := by
  obtain ⟨so, n, cap, rfl⟩ := okWide_slice Tryz.underlying23 hv
  obtain ⟨fuel, hf⟩ := h
  have hct : Tryz.prog.cellsOf 36 = 4 := by kernel_rfl
  rcases Deep.open_slice Tryz.underlying23 hf with ⟨hcs, _⟩ | ⟨a, len, cap', m, n', D, Pl, hcs, hb, hl, hm, hmm, hde, hx⟩
  · simp [Value.cells] at hcs
    obtain ⟨rfl, rfl, rfl⟩ := hcs
    exact ⟨none, 0, 0, fun _ => 0, fun _ => 0, fun _ => none, fun _ => 0, fun _ => 0, fun _ => 0, fun _ _ _ => false, rfl, ⟨by omega, fun h => by omega⟩, fun t ht => by omega, by omega, by omega, by omega⟩
  · simp [Value.cells] at hcs
    obtain ⟨rfl, rfl, rfl⟩ := hcs
    have hle : n ≤ m := by rw [hmm]; split <;> omega
    have hwe : ∀ k ∈ (DataW.slice ((List.range n).map D) ((List.range (m - n)).map fun j => D (n + j))).weights Tryz.prog 23, k ≤ reachBytes := by
      have : d = DataW.slice ((List.range n).map D) ((List.range (m - n)).map fun j => D (n + j)) := by have := congrArg Prod.fst hde; exact this
      rw [← this]
      exact hw
    have hwn : n ≤ 4398046511104 := by
      have hbn : Tryz.prog.bytesOf 36 = 48 := by kernel_rfl
      have := hwe ((((List.range n).map D).length + ((List.range (m - n)).map fun j => D (n + j)).length) * Tryz.prog.bytesOf 36) (by simp [DataW.weights, Tryz.underlying23])
      rw [hbn] at this
      simp only [List.length_map, List.length_range] at this
      unfold reachBytes at this
      omega
    have hws : ∀ i, i < n → ∀ k ∈ (D i).weights Tryz.prog 36, k ≤ reachBytes := fun i hi k hk => hwe k (by
      unfold DataW.weights
      rw [Tryz.underlying23]
      exact List.mem_cons_of_mem _ (List.mem_append_left _ (weights_all_mem (List.mem_map.2 ⟨i, List.mem_range.2 hi, rfl⟩) k hk)))
    obtain ⟨F, hF⟩ := Deep.choose_lt (α := Int × Int × Option Addr × Nat × Nat × Int × (Nat → Nat → Bool)) (n := n) (p := fun i f => ((W.cell? (a.add (i * 4)) = some (.int .i64 f.1) ∧ W.cell? ((a.add (i * 4)).add 1) = some (.int .i64 f.2.1) ∧ W.cell? ((a.add (i * 4)).add 2) = some (.slice f.2.2.1 f.2.2.2.1 f.2.2.2.2.1) ∧ W.cell? ((a.add (i * 4)).add 3) = some (.int .i64 f.2.2.2.2.2.1)) ∧ Lp W f.2.2.1 f.2.2.2.1 f.2.2.2.2.2.2 ∧ f.2.2.2.1 ≤ 4398046511104)) (fun i hi => by
      obtain ⟨cs', h1, h2⟩ := hx i (by omega)
      rw [hct] at h1
      obtain ⟨k, m', ao, l, c, j, Q, rfl, hp⟩ := read_node h2
      obtain ⟨_, hlen, hc⟩ := World.cells?_some h1
      have g0 := hc 0 (by omega)
      have g1 := hc 1 (by omega)
      have g2 := hc 2 (by omega)
      have g3 := hc 3 (by omega)
      exact ⟨(k, m', ao, l, c, j, Q), ⟨by simpa [Deep.add_add] using g0, g1, g2, g3⟩, hp, node_sized h2 (hws i hi) ao l c rfl⟩)
    refine ⟨some a, n, cap, fun t => (F t).1, fun t => (F t).2.1, fun t => (F t).2.2.1, fun t => (F t).2.2.2.1, fun t => (F t).2.2.2.2.1, fun t => (F t).2.2.2.2.2.1, fun t => (F t).2.2.2.2.2.2, rfl, ⟨by unfold maxLen at hm; omega, fun hn => ?_⟩, fun t ht => (hF t ht).2.2, hwn, hl, by unfold maxLen at hm; omega⟩
    have h0 := (hF 0 (by omega)).1.1
    rw [Nat.zero_mul] at h0
    obtain ⟨b, o, rfl⟩ := spot_none' h0
    refine ⟨b, o, rfl, ?_, fun t ht => ?_⟩
    · rw [add_plain'] at h0
      exact World.block_lt_of_cell? W _ h0
    · obtain ⟨⟨g0, g1, g2, g3⟩, hp, _⟩ := hF t ht
      rw [Deep.add_add, add_plain'] at g1 g2 g3
      rw [add_plain'] at g0
      exact ⟨g0, by rw [Nat.add_assoc]; exact g1, by rw [Nat.add_assoc]; exact g2, by rw [Nat.add_assoc]; exact g3, hp⟩

/-- A row of nodes that came in, as a list. -/
structure Nq (w : World) (so : Option Addr) (n cap : Nat) (L : List Qv) : Prop where
  len : L.length = n
  row : QR w so L
  room : n ≤ cap
  cap : cap ≤ 9223372036854775807

set_option maxRecDepth 100000 in
theorem open_nodes_q {H : Type} {enc : TypeId × Value → H} {W : World} {base : Nat} {r : Reach} {b0 : Nat} {spare : Nat → Bool} {held : Bool} {v : Value} {d : DataW H} {p : List MemPlace} (hv : Value.okWide Tryz.prog W r b0 23 v) (h : DataW.Trod enc Tryz.prog W base spare held 23 v d p) (hw : ∀ k ∈ d.weights Tryz.prog 23, k ≤ reachBytes) :
    ∃ so n cap L, v = .slice so n cap ∧ Nq W so n cap L := by
  obtain ⟨so, n, cap, K, M, ao, l, c, J, Q, rfl, hN, hl, hn9, hc, hm⟩ := open_nodes_sized hv h hw
  refine ⟨so, n, cap, (List.range n).map fun t => ⟨⟨K t, M t, rwl (Q t) (l t), J t⟩, ao t, c t⟩, rfl, by simp, ⟨by simpa using hn9, fun h1 => ?_, fun x hx => ?_⟩, hc, hm⟩
  · rw [List.length_map, List.length_range] at h1
    obtain ⟨b, o, e, hb, hC⟩ := hN.lies h1
    refine ⟨b, o, e, hb, fun t ht => ?_⟩
    rw [List.length_map, List.length_range] at ht
    obtain ⟨c0, c1, c2, c3, _⟩ := hC t ht
    rw [List.getElem_map, List.getElem_range]
    exact ⟨c0, c1, by rw [rwl_len]; exact c2, c3⟩
  · obtain ⟨t, ht, rfl⟩ := List.mem_map.1 hx
    rw [List.mem_range] at ht
    obtain ⟨b, o, e, hb, hC⟩ := hN.lies (by omega)
    have hp := (hC t ht).lp
    show Lf W (ao t) (rwl (Q t) (l t)).length (at' (rwl (Q t) (l t)))
    rw [rwl_len]
    refine ⟨hl t ht, fun h1 => ?_⟩
    obtain ⟨b', o', e', hb', hcl⟩ := hp.lies h1
    refine ⟨b', o', e', hb', fun u hu k hk => ?_⟩
    rw [rwl_at (Q t) (l t) u hu]
    exact hcl u hu k hk

end Cls
end Go.Proofs.YtbnnobeahliffaaGreatDoor
