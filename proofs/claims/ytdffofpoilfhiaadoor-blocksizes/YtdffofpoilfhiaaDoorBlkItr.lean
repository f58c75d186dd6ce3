/- The blocks, one by one: what the function that gives them hands over. -/
import Derived.Test.YtdffofpoilfhiaaDoorBlkMath
import Derived.Test.YtdffofpoilfhiaaDoorRound
import Derived.Test.YtdffofpoilfhiaaDoorProg
import Derived.RangeFuncBound
import Derived.Shelf.Abstract
import Derived.Shelf.RegionOpen
import Derived.WalkKit
import Derived.TacticsInMore
import Derived.LoopNIn
import Derived.LoopIn
namespace Go.Proofs.YtdffofpoilfhiaaDoor
open Go.RowKit Go.Shelf Res

/-- A block: the place of its first number. -/
abbrev Blk (m n : Nat) := { s : Nat // s + m ≤ n }
/-- How many sums it tells. -/
def tl (m n E s : Nat) : Nat := min E (n + 1 - m - s)
abbrev bencs (m n E : Nat) (x : Blk m n) : Array Value := #[.int .i64 (x.1 : Int), .int .i64 (tl m n E x.1 : Int)]
/-- Three boxes are as they were. -/
def Kept3 (b : Nat) (W W' : World) : Prop := W'.cell? ⟨b, 0, none⟩ = W.cell? ⟨b, 0, none⟩ ∧ W'.cell? ⟨b + 1, 0, none⟩ = W.cell? ⟨b + 1, 0, none⟩ ∧ W'.cell? ⟨b + 1 + 1, 0, none⟩ = W.cell? ⟨b + 1 + 1, 0, none⟩
theorem Kept3.trans {b : Nat} {X Y Z : World} (h : Kept3 b X Y) (k : Kept3 b Y Z) : Kept3 b X Z := ⟨k.1.trans h.1, k.2.1.trans h.2.1, k.2.2.trans h.2.2⟩
/-- The blocks are those of the row, in their order. -/
def AllBlk (m n E : Nat) (xs : List (Blk m n)) : Prop := xs.map (·.1) = (List.range xs.length).map (· * E) ∧ n < xs.length * E + m

set_option maxRecDepth 100000 in
set_option maxHeartbeats 2000000 in
theorem blocks_stops (q m n E b : Nat) (s : Int) (hm : m ≤ 4096) (hn : n ≤ 1000000) (hE : 1 ≤ E) (hs : s - (m : Int) + 1 = (E : Int)) (hE2 : E ≤ 4096) (hmn : m ≤ n) (hs2 : s ≤ 4096) (w : World) (hlt : b + 3 ≤ w.heap.size) (hcm : w.cell? ⟨b, 0, none⟩ = some (.int .i64 m)) (hcn : w.cell? ⟨b + 1, 0, none⟩ = some (.int .i64 n)) (hcs : w.cell? ⟨b + 1 + 1, 0, none⟩ = some (.int .i64 s)) :
    SeqStopsK Fence.wide q Tryd.prog 44 #[.pointer (some ⟨b + 1 + 1, 0, none⟩), .pointer (some ⟨b, 0, none⟩), .pointer (some ⟨b + 1, 0, none⟩)] (bencs m n E) (Kept3 b) (AllBlk m n E) (fun _ => True) (n + 1) w := fun l J Jx W hW hJ hJx hY h0 => by
  have cm : W.cell? ⟨b, 0, none⟩ = some (.int .i64 m) := (hW.cell (p := ⟨b, 0, none⟩) (by show b < _; omega)).trans hcm
  have cn : W.cell? ⟨b + 1, 0, none⟩ = some (.int .i64 n) := (hW.cell (p := ⟨b + 1, 0, none⟩) (by show b + 1 < _; omega)).trans hcn
  have cs : W.cell? ⟨b + 1 + 1, 0, none⟩ = some (.int .i64 s) := (hW.cell (p := ⟨b + 1 + 1, 0, none⟩) (by show b + 1 + 1 < _; omega)).trans hcs
  have HY : Hid _ := hY
  have H0 : Hid _ := h0
  clear hY hJ hJx hW hcm hcn hcs h0
  refine callsIn_of_wp Tryd.func44 rfl trivial ?_ rfl
  simp only [Tryd.ntmps44, List.size_toArray, List.length_cons, List.length_nil, Nat.reduceAdd, Nat.reduceSub, Array.replicate_succ, Array.replicate_zero, List.push_toArray, List.append_toArray, List.nil_append, List.cons_append]
  gi_wp2
  gi_loopw [6] (fun p wr => ∃ (pre : List (Blk m n)) (k : Nat), k = pre.length * E ∧ p = .int .i64 k ∧ pre.map (·.1) = (List.range pre.length).map (· * E) ∧ k ≤ n + E ∧ J pre wr ∧ wr.cell? ⟨b, 0, none⟩ = some (.int .i64 m) ∧ wr.cell? ⟨b + 1, 0, none⟩ = some (.int .i64 n)) (fun p _ => n + E - (intOf p).toNat)
  case atStart => exact ⟨[], 0, by simp, rfl, rfl, by omega, H0.out, cm, cn⟩
  case round =>
    obtain ⟨pre, k, hk, rfl, hpre, hkn, hJ, cm2, cn2⟩ := hrel
    have HK : Hid (k = pre.length * E) := hk
    have HP0 : Hid _ := hpre
    have HN : Hid (k + E = (pre.length + 1) * E) := by show _ = _; rw [HK.out, Nat.add_mul, Nat.one_mul]
    have HP : Hid (∀ h : k + m ≤ n, (pre ++ [(⟨k, h⟩ : Blk m n)]).map (·.1) = (List.range (pre ++ [(⟨k, h⟩ : Blk m n)]).length).map (· * E)) := fun h => by
      rw [List.map_append, List.length_append, List.length_singleton, List.range_succ, List.map_append, hpre]
      simp [hk]
    have hlen0 : Hid (k ≤ n → pre.length < n + 1) := fun h => by
      have : pre.length * 1 ≤ pre.length * E := Nat.mul_le_mul_left _ hE
      omega
    clear hk hpre
    obtain ⟨N, hN⟩ : ∃ N, N + m = n + 1 := ⟨n + 1 - m, by omega⟩
    have hNI : (n : Int) - (m : Int) + 1 = (N : Int) := by omega
    by_cases hkm : k + m ≤ n
    · have hlen := hlen0.out (by omega)
      have hkI : (k : Int) + (m : Int) ≤ (n : Int) := by omega
      obtain ⟨d, hd⟩ : ∃ d, d + k = N := ⟨N - k, by omega⟩
      have hdI : (N : Int) - (k : Int) = (d : Int) := by omega
      by_cases hc : E ≤ d
      · have htl : tl m n E k = E := by unfold tl; omega
        have hcI : (E : Int) ≤ (d : Int) := by omega
        have h := HY.out pre ⟨k, hkm⟩ wr hJ hlen
        simp only [bencs, htl] at h
        obtain ⟨fn, tmps, assign, body, hy, hR⟩ := h
        have hRR : Hid _ := hR
        clear hR
        gi_wp2
        refine ⟨fun h0 => (by cases h0), RoundIn.mono (Hid.out hRR) ?_⟩
        rintro e W3 (⟨rfl, hJ3, hk3⟩ | ⟨rfl, hJx3⟩)
        · have cm3 : W3.cell? ⟨b, 0, none⟩ = some (.int .i64 m) := hk3.1.trans cm2
          have cn3 : W3.cell? ⟨b + 1, 0, none⟩ = some (.int .i64 n) := hk3.2.1.trans cn2
          gi_wp2
          go_roundw
          case rel => exact ⟨pre ++ [⟨k, hkm⟩], k + E, (by rw [List.length_append, List.length_singleton]; exact HN.out), by go_num, HP.out hkm, by omega, hJ3, cm3, cn3⟩
          case measure => simp [intOf]; omega
        · gi_wp2
          refine bodyPost_ret (results_none rfl _ _ _) rfl ?_
          exact ⟨⟨_, rfl⟩, .inr ⟨pre ++ [⟨k, hkm⟩], trivial, hJx3⟩⟩
      · have htl : tl m n E k = d := by unfold tl; omega
        have hcI : (d : Int) < (E : Int) := by omega
        have h := HY.out pre ⟨k, hkm⟩ wr hJ hlen
        simp only [bencs, htl] at h
        obtain ⟨fn, tmps, assign, body, hy, hR⟩ := h
        have hRR : Hid _ := hR
        clear hR
        gi_wp2
        refine ⟨fun h0 => (by cases h0), RoundIn.mono (Hid.out hRR) ?_⟩
        rintro e W3 (⟨rfl, hJ3, hk3⟩ | ⟨rfl, hJx3⟩)
        · have cm3 : W3.cell? ⟨b, 0, none⟩ = some (.int .i64 m) := hk3.1.trans cm2
          have cn3 : W3.cell? ⟨b + 1, 0, none⟩ = some (.int .i64 n) := hk3.2.1.trans cn2
          gi_wp2
          go_roundw
          case rel => exact ⟨pre ++ [⟨k, hkm⟩], k + E, (by rw [List.length_append, List.length_singleton]; exact HN.out), by go_num, HP.out hkm, by omega, hJ3, cm3, cn3⟩
          case measure => simp [intOf]; omega
        · gi_wp2
          refine bodyPost_ret (results_none rfl _ _ _) rfl ?_
          exact ⟨⟨_, rfl⟩, .inr ⟨pre ++ [⟨k, hkm⟩], trivial, hJx3⟩⟩
    · have hkI : (n : Int) < (k : Int) + (m : Int) := by omega
      gi_wp2
      go_end0
      exact ⟨⟨_, rfl⟩, .inl ⟨pre, ⟨HP0.out, by rw [← HK.out]; omega⟩, hJ⟩⟩
end Go.Proofs.YtdffofpoilfhiaaDoor
