/- Contract of zed.seer. -/
import Derived.Test.YtgdjllfolfiboaaDoorZdSee
namespace Go.Proofs.YtgdjllfolfiboaaDoor
open Go.RowKit
namespace Cls

/-- A new box of one cell. -/
structure Bx (w v : World) (x : Value) (ty : TypeId) : Prop where
  eq : v = w.alloc (.cells #[x] ty)
  size : v.heap.size = w.heap.size + 1
  c : v.cell? ⟨w.heap.size, 0, none⟩ = some x
  f : v.frozen? ⟨w.heap.size, 0, none⟩ = false
  bel : Below w.heap.size w v

theorem bx (w : World) (x : Value) (ty : TypeId) : ∃ v, Bx w v x ty := by
  have hb : (w.alloc (.cells #[x] ty)).heap[w.heap.size]? = some (.cells #[x] ty) := by show (w.heap.push _)[w.heap.size]? = _; simp
  refine ⟨_, rfl, by show (w.heap.push _).size = _; simp, ?_, ?_, (Below.refl _ _).alloc (Nat.le_refl _) _⟩
  · unfold World.cell?; rw [hb]; rfl
  · unfold World.frozen?; rw [hb]; simp

/-- What seer gives. -/
def Seer (w : World) (p t : ByteArray) (rv : Value) (e : Ending) (w' : World) : Prop :=
  ∃ be br bs bp bt, e = .returned (.func (.func 29) #[] #[.pointer (some ⟨be, 0, none⟩), .pointer (some ⟨br, 0, none⟩), .pointer (some ⟨bs, 0, none⟩), .pointer (some ⟨bp, 0, none⟩), .pointer (some ⟨bt, 0, none⟩)]) ∧ Eye w' be br bs bp bt p t rv 0 0 ∧ (w.heap.size ≤ be ∧ w.heap.size ≤ br ∧ w.heap.size ≤ bs ∧ w.heap.size ≤ bp ∧ w.heap.size ≤ bt) ∧ Below w.heap.size w w'

set_option maxHeartbeats 1000000 in
theorem seer_any (p t : ByteArray) (ro : Option Addr) (n cap : Nat) (w : World) :
    Calls Tryd.prog 21 #[.string p, .slice ro n cap, .string t] w (Seer w p t (.slice ro n cap)) := by
  obtain ⟨w1, b1⟩ := bx w (.string p) 9
  obtain ⟨w2, b2⟩ := bx w1 (.slice ro n cap) 24
  obtain ⟨w3, b3⟩ := bx w2 (.string t) 9
  obtain ⟨w4, b4⟩ := bx w3 (.int .i64 0) 3
  obtain ⟨w5, b5⟩ := bx w4 (.int .i64 0) 3
  have s1 := b1.size
  have s2 := b2.size
  have s3 := b3.size
  have s4 := b4.size
  have s5 := b5.size
  have l12 := b2.bel
  have l13 := l12.trans (b3.bel.mono l12.size)
  have l14 := l13.trans (b4.bel.mono l13.size)
  have l15 := l14.trans (b5.bel.mono l14.size)
  have l23 := b3.bel
  have l24 := l23.trans (b4.bel.mono l23.size)
  have l25 := l24.trans (b5.bel.mono l24.size)
  have l34 := b4.bel
  have l35 := l34.trans (b5.bel.mono l34.size)
  have l45 := b5.bel
  have l05 : Below w.heap.size w w5 := b1.bel.trans (l15.mono b1.bel.size)
  have hE : Eye w5 w4.heap.size w1.heap.size w3.heap.size w.heap.size w2.heap.size p t (.slice ro n cap) 0 0 :=
    ⟨b5.c, (l25.cell (p := ⟨w1.heap.size, 0, none⟩) (by show w1.heap.size < _; omega)).trans b2.c, (l45.cell (p := ⟨w3.heap.size, 0, none⟩) (by show w3.heap.size < _; omega)).trans b4.c, (l15.cell (p := ⟨w.heap.size, 0, none⟩) (by show w.heap.size < _; omega)).trans b1.c, (l35.cell (p := ⟨w2.heap.size, 0, none⟩) (by show w2.heap.size < _; omega)).trans b3.c, b5.f, (l45.frozen (p := ⟨w3.heap.size, 0, none⟩) (by show w3.heap.size < _; omega)).trans b4.f, by omega, Sn.zero _ _⟩
  have HR : Hid (Seer w p t (.slice ro n cap) (.returned (.func (.func 29) #[] #[.pointer (some ⟨w.heap.size + 4, 0, none⟩), .pointer (some ⟨w.heap.size + 1, 0, none⟩), .pointer (some ⟨w.heap.size + 3, 0, none⟩), .pointer (some ⟨w.heap.size, 0, none⟩), .pointer (some ⟨w.heap.size + 2, 0, none⟩)])) w5) := by
    rw [s4, s3, s2, s1] at hE
    exact ⟨_, _, _, _, _, rfl, hE, ⟨by omega, by omega, by omega, by omega, by omega⟩, l05⟩
  have E5 : Hid (w5 = ((((w.alloc (.cells #[.string p] 9)).alloc (.cells #[.slice ro n cap] 24)).alloc (.cells #[.string t] 9)).alloc (.cells #[.int .i64 0] 3)).alloc (.cells #[.int .i64 0] 3)) := by
    show _ = _; rw [b5.eq, b4.eq, b3.eq, b2.eq, b1.eq]
  clear hE b1 b2 b3 b4 b5 s1 s2 s3 s4 s5 l12 l13 l14 l15 l23 l24 l25 l34 l35 l45 l05
  rw [E5.out] at HR
  go_enter Tryd.func21, Tryd.ntmps21
  go_wp2_with fail
  go_ret
  exact HR.out

end Cls
end Go.Proofs.YtgdjllfolfiboaaDoor
