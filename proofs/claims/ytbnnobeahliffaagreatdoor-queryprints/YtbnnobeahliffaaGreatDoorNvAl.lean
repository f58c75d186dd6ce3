/- Contracts of beaglelaw08.alive: it tells true; nothing that was there turns; and of beaglelaw08.few. -/
import Derived.Test.YtbnnobeahliffaaGreatDoorNvA
import Derived.Test.YtbnnobeahliffaaGreatDoorLfA
namespace Go.Proofs.YtbnnobeahliffaaGreatDoor
open Go.RowKit Go.Shelf
namespace Cls

theorem tx_byt (s : ByteArray) (t : Nat) (h : t < s.size) (x : Nat) : tx s t x = (x == byt s t) := by
  rw [byt_at s t h]
  unfold tx inS
  have hd : (s.extract t (t + 1)).data.toList = [s[t]'h] := by
    rw [ByteArray.data_extract]
    have ht : t < s.data.size := h
    apply List.ext_getElem?
    intro i
    rw [Array.toList_extract, List.extract_eq_take_drop]
    by_cases hi : i = 0
    · subst hi
      simp
      exact Array.getElem?_eq_getElem ht
    · rw [List.getElem?_eq_none (by simp; omega), List.getElem?_eq_none (by simp; omega)]
  have hl : (s.extract t (t + 1)).size = 1 := by rw [ByteArray.size_extract]; omega
  rw [hd, hl]
  simp only [List.take_succ_cons, List.take_zero, List.any_cons, List.any_nil, Bool.or_false]
  exact BEq.comm

theorem rgt_tx (s : ByteArray) (K : Int) (h1 : 1 ≤ s.size) (h2 : s.size ≤ 64) (h3 : 0 ≤ K) (h4 : K ≤ 64) : rgt (tx s) s.size K = true := by
  rw [rgt_yes ⟨h1, h2, h3, h4⟩]
  have e : emp (tx s) s.size = false := by
    unfold emp
    rw [List.any_eq_false]
    intro t ht
    have ht' : t < s.size := by simpa using ht
    intro hh
    have h5 := (sm_iff _ _).1 hh (byt s t) (byt_lt s t)
    rw [tx_byt s t ht'] at h5
    simp at h5
  rw [e]
  rfl

/-- How many letters part. -/
theorem mis_tx (u s : ByteArray) (i m : Nat) (hm : m ≤ u.size) : mis (tx u) s i m = ((List.range m).filter fun t => !(byt s (i + t) == byt u t)).length := by
  induction m with
  | zero => rw [mis_zero]; rfl
  | succ m ih =>
    rw [mis_succ, ih (by omega), tx_byt u m (by omega), List.range_succ, List.filter_append, List.length_append]
    congr 1
    cases h : (byt s (i + m) == byt u m) <;> simp [h]

def tab : ByteArray := ⟨#[97, 98]⟩
def tb : ByteArray := ⟨#[98]⟩
def tabbb : ByteArray := ⟨#[97, 98, 98, 98]⟩
def tabab : ByteArray := ⟨#[97, 98, 97, 98]⟩

theorem mtab (i : Nat) : mis (tx tab) tabbb i 2 = ((List.range 2).filter fun t => !(byt tabbb (i + t) == byt tab t)).length := mis_tx tab tabbb i 2 (by decide)
theorem mtb (i : Nat) : mis (tx tb) tabab i 1 = ((List.range 1).filter fun t => !(byt tabab (i + t) == byt tb t)).length := mis_tx tb tabab i 1 (by decide)
theorem stab : stn (tx tab) 2 1 tabbb.size = 3 := stn_yes (rgt_tx tab 1 (by decide) (by decide) (by decide) (by decide)) (by decide)
theorem stb : stn (tx tb) 1 0 tabab.size = 4 := stn_yes (rgt_tx tb 0 (by decide) (by decide) (by decide) (by decide)) (by decide)
theorem q2 : ata (tx tab) 2 1 tabbb 2 = true ∧ atv (tx tab) 2 1 tabbb 2 = 1 := by
  have h : ata (tx tab) 2 1 tabbb 2 = true := by unfold ata; rw [stab]; decide
  refine ⟨h, ?_⟩
  unfold atv
  rw [if_pos h, show (2 : Int).toNat = 2 from rfl, mtab]
  decide
theorem q3 : ata (tx tab) 2 1 tabbb 3 = false ∧ atv (tx tab) 2 1 tabbb 3 = 0 := by
  have h : ata (tx tab) 2 1 tabbb 3 = false := by unfold ata; rw [stab]; decide
  refine ⟨h, ?_⟩
  unfold atv
  rw [if_neg (by rw [h]; decide)]
theorem qc : cts (tx tab) 2 1 tabbb = [0, 1, 1] := by
  unfold cts
  rw [stab]
  simp only [mtab]
  decide
theorem qf : fnd (tx tab) 2 1 tabbb = [0, 1, 2] := by
  rw [fnd_hts, stab]
  unfold hts
  simp only [mtab]
  decide
theorem qb : fnd (tx tb) 1 0 tabab = [1, 3] := by
  rw [fnd_hts, stb]
  unfold hts
  simp only [mtb]
  decide

def c201 : Nat → Int := fun t => if t = 0 then 2 else if t = 1 then 0 else 1
theorem qh : hts c201 1 3 = [1, 2] := by decide
theorem q0 (P : Nat → Nat → Bool) (s : ByteArray) : cts P 0 0 s = [] := by
  unfold cts
  rw [stn_no (fun h => by have := (rgt_len h.1).1; omega)]
  rfl

theorem lit3 (v : World) (a b c : Nat) : Is (v.alloc (.cells #[.int .i64 (a : Int), .int .i64 (b : Int), .int .i64 (c : Int)] 3)) (some ⟨v.heap.size, 0, none⟩) [a, b, c] := fun _ => by
  refine ⟨v.heap.size, rfl, by rw [World.size_alloc]; omega, fun t ht => ?_⟩
  have hb : (v.alloc (.cells #[.int .i64 (a : Int), .int .i64 (b : Int), .int .i64 (c : Int)] 3)).heap[v.heap.size]? = some (.cells #[.int .i64 (a : Int), .int .i64 (b : Int), .int .i64 (c : Int)] 3) := World.alloc_heap_new v _
  unfold World.cell?
  rw [hb]
  match t, ht with
  | 0, _ => rfl
  | 1, _ => rfl
  | 2, _ => rfl

theorem lit2 (v : World) (a b : Nat) : Is (v.alloc (.cells #[.int .i64 (a : Int), .int .i64 (b : Int)] 3)) (some ⟨v.heap.size, 0, none⟩) [a, b] := fun _ => by
  refine ⟨v.heap.size, rfl, by rw [World.size_alloc]; omega, fun t ht => ?_⟩
  have hb : (v.alloc (.cells #[.int .i64 (a : Int), .int .i64 (b : Int)] 3)).heap[v.heap.size]? = some (.cells #[.int .i64 (a : Int), .int .i64 (b : Int)] 3) := World.alloc_heap_new v _
  unfold World.cell?
  rw [hb]
  match t, ht with
  | 0, _ => rfl
  | 1, _ => rfl

theorem eqi_same (L : List Nat) : eqi L L = true := by unfold eqi; simp

/-- The leaf of two letters, in its box. -/
structure Alv (w v : World) (g : Nat) (bo : Option Addr) (d : Nat) : Prop where
  bel : Below w.heap.size w v
  c0 : v.cell? ⟨g, 0, none⟩ = some (.slice bo 2 d)
  c1 : v.cell? ⟨g, 1, none⟩ = some (.int .i64 1)
  lf : Lf v bo 2 (tx tab)

theorem Alv.grow {w v v' : World} {g d : Nat} {bo : Option Addr} (h : Alv w v g bo d) (hb : Below v.heap.size v v') : Alv w v' g bo d :=
  ⟨h.bel.trans (hb.mono h.bel.size), (hb.cell (p := ⟨g, 0, none⟩) (lt_of_cell h.c0)).trans h.c0, (hb.cell (p := ⟨g, 1, none⟩) (lt_of_cell h.c0)).trans h.c1, h.lf.grow hb⟩

theorem Alv.alloc {w v : World} {g d : Nat} {bo : Option Addr} (h : Alv w v g bo d) (o : Obj) : Alv w (v.alloc o) g bo d := h.grow ((Below.refl _ _).alloc (Nat.le_refl _) _)

end Cls
end Go.Proofs.YtbnnobeahliffaaGreatDoor
