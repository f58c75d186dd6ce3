/- What stands on the way of beaglelaw07.alive: two classes and a leaf in boxes. Nothing of the program but its types' numbers. -/
import Derived.Test.YtppmmobmoanagaaDoorLfA
import Derived.Deep.RegionHeld3
import Derived.Deep.DeepCutAuto
namespace Go.Proofs.YtppmmobmoanagaaDoor
open Go.RowKit
namespace Cls

theorem unalloc' {v v' : World} {o : Obj} (b : Below (v.alloc o).heap.size (v.alloc o) v') : Below v.heap.size v v' :=
  ((Below.refl _ v).alloc (Nat.le_refl _) o).trans (b.mono (by show v.heap.size ≤ (v.heap.push _).size; simp))

/-- A new leaf's box, still empty. -/
def Zl (w : World) (gn g : Nat) : Prop := (w.cell? ⟨g, 0, none⟩ = some (.slice none 0 0) ∧ w.cell? ⟨g, 1, none⟩ = some (.int .i64 0)) ∧ Wrt w g 0 2 ∧ gn < g ∧ g < w.heap.size

theorem zl_alloc (v : World) {gn : Nat} (hn : gn < v.heap.size) : Zl (v.alloc (.cells #[.slice none 0 0, .int .i64 0] 24)) gn v.heap.size := by
  have hb : (v.alloc (.cells #[.slice none 0 0, .int .i64 0] 24)).heap[v.heap.size]? = some (.cells #[.slice none 0 0, .int .i64 0] 24) := by show (v.heap.push _)[v.heap.size]? = _; simp
  refine ⟨⟨?_, ?_⟩, fun t _ => ?_, hn, by show _ < (v.heap.push _).size; simp⟩
  · unfold World.cell?; rw [hb]; rfl
  · unfold World.cell?; rw [hb]; rfl
  · unfold World.frozen?; rw [hb]; simp

theorem zl_new {v v' : World} (b : Below (v.alloc (.cells #[.slice none 0 0, .int .i64 0] 24)).heap.size (v.alloc (.cells #[.slice none 0 0, .int .i64 0] 24)) v') {gn : Nat} (hn : gn < v.heap.size) : Zl v' gn v.heap.size := by
  have z := zl_alloc v hn
  exact ⟨two_below z.1 b z.2.2.2, z.2.1.below b z.2.2.2, hn, Nat.lt_of_lt_of_le z.2.2.2 b.size⟩

/-- The four of the leaf. -/
def pal (fa fF fb : Nat → Bool) : Nat → Nat → Bool := fun t => if t = 0 then fa else if t = 1 then fF else if t = 2 then fb else fa

/-- Its row. -/
def o16 (fa fF fb : Nat → Bool) : Obj := .cells #[.int .u64 ((wd fa 0 : Nat) : Int), .int .u64 ((wd fa 1 : Nat) : Int), .int .u64 ((wd fa 2 : Nat) : Int), .int .u64 ((wd fa 3 : Nat) : Int), .int .u64 ((wd fF 0 : Nat) : Int), .int .u64 ((wd fF 1 : Nat) : Int), .int .u64 ((wd fF 2 : Nat) : Int), .int .u64 ((wd fF 3 : Nat) : Int), .int .u64 ((wd fb 0 : Nat) : Int), .int .u64 ((wd fb 1 : Nat) : Int), .int .u64 ((wd fb 2 : Nat) : Int), .int .u64 ((wd fb 3 : Nat) : Int), .int .u64 ((wd fa 0 : Nat) : Int), .int .u64 ((wd fa 1 : Nat) : Int), .int .u64 ((wd fa 2 : Nat) : Int), .int .u64 ((wd fa 3 : Nat) : Int)] 27

theorem cl16 (v : World) (fa fF fb : Nat → Bool) : Cl (v.alloc (o16 fa fF fb)) v.heap.size 0 4 (pal fa fF fb) := by
  have hb : (v.alloc (o16 fa fF fb)).heap[v.heap.size]? = some (o16 fa fF fb) := by show (v.heap.push _)[v.heap.size]? = _; simp
  intro t ht k hk
  unfold World.cell?
  rw [hb]
  match t, ht with
  | 0, _ =>
    show _ = some (Value.int .u64 ((wd fa k : Nat) : Int))
    match k, hk with
    | 0, _ => rfl
    | 1, _ => rfl
    | 2, _ => rfl
    | 3, _ => rfl
  | 1, _ =>
    show _ = some (Value.int .u64 ((wd fF k : Nat) : Int))
    match k, hk with
    | 0, _ => rfl
    | 1, _ => rfl
    | 2, _ => rfl
    | 3, _ => rfl
  | 2, _ =>
    show _ = some (Value.int .u64 ((wd fb k : Nat) : Int))
    match k, hk with
    | 0, _ => rfl
    | 1, _ => rfl
    | 2, _ => rfl
    | 3, _ => rfl
  | 3, _ =>
    show _ = some (Value.int .u64 ((wd fa k : Nat) : Int))
    match k, hk with
    | 0, _ => rfl
    | 1, _ => rfl
    | 2, _ => rfl
    | 3, _ => rfl

theorem al_below (v : World) (o : Obj) : Below v.heap.size v (v.alloc o) := (Below.refl _ _).alloc (Nat.le_refl _) _

theorem al_size (v : World) (o : Obj) : (v.alloc o).heap.size = v.heap.size + 1 := by show (v.heap.push _).size = _; simp

theorem lf16 (v : World) (fa fF fb : Nat → Bool) : Lf (v.alloc (o16 fa fF fb)) (some ⟨v.heap.size, 0, none⟩) 4 (pal fa fF fb) :=
  ⟨by omega, fun _ => ⟨v.heap.size, 0, rfl, by rw [al_size]; omega, cl16 v fa fF fb⟩⟩

theorem c44 {w : World} {b : Nat} {f : Nat → Bool} (h : Fam w b 4 4 (wi f)) : w.cell? ⟨b, 4, none⟩ = some (.int .u64 (wd f 0 : Nat)) ∧ w.cell? ⟨b, 5, none⟩ = some (.int .u64 (wd f 1 : Nat)) ∧ w.cell? ⟨b, 6, none⟩ = some (.int .u64 (wd f 2 : Nat)) ∧ w.cell? ⟨b, 7, none⟩ = some (.int .u64 (wd f 3 : Nat)) :=
  ⟨h 0 (by omega), h 1 (by omega), h 2 (by omega), h 3 (by omega)⟩

end Cls
end Go.Proofs.YtppmmobmoanagaaDoor
