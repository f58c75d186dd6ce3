/- Rows of classes that are appended to. Nothing of the program but its types' numbers. -/
import Derived.Test.YtcohcdebbkfdfaaDoorLfRow
import Derived.Test.YtcohcdebbkfdfaaDoorClsA
namespace Go.Proofs.YtcohcdebbkfdfaaDoor
open Go.RowKit
namespace Cls

/-- The cells of a row of classes. -/
def cls (L : List (Nat → Bool)) : List Value := L.flatMap fun f => [.int .u64 ((wd f 0 : Nat) : Int), .int .u64 ((wd f 1 : Nat) : Int), .int .u64 ((wd f 2 : Nat) : Int), .int .u64 ((wd f 3 : Nat) : Int)]

theorem cls_len (L : List (Nat → Bool)) : (cls L).length = L.length * 4 := by
  induction L with
  | nil => rfl
  | cons p L ih => simp [cls] at ih ⊢; omega

theorem cls_append (L M : List (Nat → Bool)) : cls (L ++ M) = cls L ++ cls M := by simp [cls]

/-- Its element t. -/
def at' (L : List (Nat → Bool)) (t : Nat) : Nat → Bool := L.getD t (fun _ => false)

theorem at_get {L : List (Nat → Bool)} {t : Nat} (h : t < L.length) : at' L t = L[t] := by unfold at'; rw [List.getD_eq_getElem?_getD, List.getElem?_eq_getElem h]; rfl

theorem four_at (W : Nat → Nat) (k : Nat) (hk : k < 4) : ([.int .u64 ((W 0 : Nat) : Int), .int .u64 ((W 1 : Nat) : Int), .int .u64 ((W 2 : Nat) : Int), .int .u64 ((W 3 : Nat) : Int)] : List Value)[k]? = some (.int .u64 ((W k : Nat) : Int)) := by
  match k, hk with
  | 0, _ => rfl
  | 1, _ => rfl
  | 2, _ => rfl
  | 3, _ => rfl

theorem cls_at (L : List (Nat → Bool)) (t k : Nat) (h : t < L.length) (hk : k < 4) : (cls L)[t * 4 + k]? = some (.int .u64 ((wd (at' L t) k : Nat) : Int)) := by
  have e : L = L.take t ++ ([L[t]] ++ L.drop (t + 1)) := by
    rw [← List.append_assoc, ← List.take_succ_eq_append_getElem h, List.take_append_drop]
  have hl : (cls (L.take t)).length = t * 4 := by rw [cls_len, List.length_take]; omega
  have e2 : cls L = cls (L.take t) ++ (cls [L[t]] ++ cls (L.drop (t + 1))) := by
    conv => lhs; rw [e]
    rw [cls_append, cls_append]
  rw [e2, List.getElem?_append_right (by omega), hl, show t * 4 + k - t * 4 = k by omega, List.getElem?_append_left (by rw [cls_len]; simp; omega), at_get h]
  exact four_at (wd L[t]) k hk

def OwnC (w : World) (B : Nat) (v : Value) (L : List (Nat → Bool)) : Prop := w.ownsRow B 35 4 v L.length (cls L)

theorem ownC_nil (w : World) (B : Nat) : OwnC w B (.slice none 0 0) [] := World.ownsRow_nil _ _ _ _

theorem ownC_lf {w : World} {B : Nat} {v : Value} {L : List (Nat → Bool)} (h : OwnC w B v L) (hs : L.length ≤ 4398046511104) : ∃ ao c, v = .slice ao L.length c ∧ Lf w ao L.length (at' L) := by
  by_cases hn : 1 ≤ L.length
  · obtain ⟨g, cap, hv, _, _, hlt, hc, _⟩ := owns_cells h hn
    refine ⟨_, cap, hv, hs, fun _ => ⟨g, 0, rfl, hlt, fun t ht k hk => ?_⟩⟩
    rw [Nat.zero_add, hc _ (by omega)]
    exact cls_at L t k ht hk
  · obtain ⟨_, ⟨e, e2⟩ | ⟨g', cap, cur, hv, _⟩⟩ := h
    · exact ⟨none, 0, by rw [e, e2], hs, fun h => absurd h hn⟩
    · exact ⟨_, _, hv, hs, fun h => absurd h hn⟩

theorem add_none (b o j : Nat) : (⟨b, o, none⟩ : Addr).add j = ⟨b, o + j, none⟩ := by unfold Addr.add; split <;> simp_all

/-- A new row of one class. -/
theorem new4 (w : World) (f : Nat → Bool) (j : Nat) (u : Value) (h : (cls [f])[j]? = some u) : (w.alloc (.cells #[.int .u64 ((wd (f) 0 : Nat) : Int), .int .u64 ((wd (f) 1 : Nat) : Int), .int .u64 ((wd (f) 2 : Nat) : Int), .int .u64 ((wd (f) 3 : Nat) : Int)] 35)).cell? ((⟨w.heap.size, 0, none⟩ : Addr).add j) = some u := by
  have hb : (w.alloc (.cells #[.int .u64 ((wd (f) 0 : Nat) : Int), .int .u64 ((wd (f) 1 : Nat) : Int), .int .u64 ((wd (f) 2 : Nat) : Int), .int .u64 ((wd (f) 3 : Nat) : Int)] 35)).heap[w.heap.size]? = some (.cells #[.int .u64 ((wd (f) 0 : Nat) : Int), .int .u64 ((wd (f) 1 : Nat) : Int), .int .u64 ((wd (f) 2 : Nat) : Int), .int .u64 ((wd (f) 3 : Nat) : Int)] 35) := by show (w.heap.push _)[w.heap.size]? = _; simp
  rw [add_none]
  unfold World.cell?
  rw [hb, Nat.zero_add]
  have e : cls [f] = [.int .u64 ((wd f 0 : Nat) : Int), .int .u64 ((wd f 1 : Nat) : Int), .int .u64 ((wd f 2 : Nat) : Int), .int .u64 ((wd f 3 : Nat) : Int)] := rfl
  rw [e] at h
  generalize wd f = W at *
  match j, h with
  | 0, h => exact h
  | 1, h => exact h
  | 2, h => exact h
  | 3, h => exact h

theorem plain4 (f : Nat → Bool) : ∀ u ∈ cls [f], u.oneCell' = true := by
  intro u hu
  simp [cls] at hu
  rcases hu with rfl | rfl | rfl | rfl <;> rfl

theorem infoC : ∃ i, Tryd.prog.info? 35 = some i ∧ i.zero = some (.agg #[.int .u64 0, .int .u64 0, .int .u64 0, .int .u64 0]) ∧ i.size = 4 ∧ i.bytes = 32 := by
  have h : (Tryd.prog.info? 35).map (fun i => (i.zero, i.size, i.bytes)) = some (some (.agg #[.int .u64 0, .int .u64 0, .int .u64 0, .int .u64 0]), 4, 32) := by kernel_rfl
  obtain ⟨i, hi, hz⟩ := Option.map_eq_some_iff.1 h
  simp only [Prod.mk.injEq] at hz
  exact ⟨i, hi, hz.1, hz.2.1, hz.2.2⟩

end Cls
end Go.Proofs.YtcohcdebbkfdfaaDoor
