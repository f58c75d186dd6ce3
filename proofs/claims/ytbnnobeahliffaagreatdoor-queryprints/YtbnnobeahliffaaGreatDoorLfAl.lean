/- What stands on the way of beaglelaw07.alive: two classes and a leaf in boxes. Nothing of the program but its types' numbers. -/
import Derived.Test.YtbnnobeahliffaaGreatDoorLfA
import Derived.Deep.RegionHeld3
import Derived.Deep.DeepCutAuto
namespace Go.Proofs.YtbnnobeahliffaaGreatDoor
open Go.RowKit
namespace Cls

/-- Two classes in boxes, on the way. -/
structure A2 (w wk : World) (ga gb : Nat) (fa fb : Nat → Bool) : Prop where
  bel : Below w.heap.size w wk
  a : Fam wk ga 0 4 (wi fa)
  b : Fam wk gb 0 4 (wi fb)
  tab : TabB wk

theorem A2.grow {w wk w' : World} {ga gb : Nat} {fa fb : Nat → Bool} (h : A2 w wk ga gb fa fb) (b : Below wk.heap.size wk w') : A2 w w' ga gb fa fb :=
  ⟨h.bel.trans (b.mono h.bel.size), h.a.below b (h.a.lt (by omega)), h.b.below b (h.b.lt (by omega)), h.tab.grow b⟩

theorem unalloc' {v v' : World} {o : Obj} (b : Below (v.alloc o).heap.size (v.alloc o) v') : Below v.heap.size v v' :=
  ((Below.refl _ v).alloc (Nat.le_refl _) o).trans (b.mono (by show v.heap.size ≤ (v.heap.push _).size; simp))

/-- A new leaf's box, still empty. -/
def Zl (w : World) (gn g : Nat) : Prop := (w.cell? ⟨g, 0, none⟩ = some (.slice none 0 0) ∧ w.cell? ⟨g, 1, none⟩ = some (.int .i64 0)) ∧ Wrt w g 0 2 ∧ gn < g ∧ g < w.heap.size

theorem zl_alloc (v : World) {gn : Nat} (hn : gn < v.heap.size) : Zl (v.alloc (.cells #[.slice none 0 0, .int .i64 0] 34)) gn v.heap.size := by
  have hb : (v.alloc (.cells #[.slice none 0 0, .int .i64 0] 34)).heap[v.heap.size]? = some (.cells #[.slice none 0 0, .int .i64 0] 34) := by show (v.heap.push _)[v.heap.size]? = _; simp
  refine ⟨⟨?_, ?_⟩, fun t _ => ?_, hn, by show _ < (v.heap.push _).size; simp⟩
  · unfold World.cell?; rw [hb]; rfl
  · unfold World.cell?; rw [hb]; rfl
  · unfold World.frozen?; rw [hb]; simp

theorem zl_new {v v' : World} (b : Below (v.alloc (.cells #[.slice none 0 0, .int .i64 0] 34)).heap.size (v.alloc (.cells #[.slice none 0 0, .int .i64 0] 34)) v') {gn : Nat} (hn : gn < v.heap.size) : Zl v' gn v.heap.size := by
  have z := zl_alloc v hn
  exact ⟨two_below z.1 b z.2.2.2, z.2.1.below b z.2.2.2, hn, Nat.lt_of_lt_of_le z.2.2.2 b.size⟩

/-- The four of the leaf. -/
def pal (fa fF fb : Nat → Bool) : Nat → Nat → Bool := fun t => if t = 0 then fa else if t = 1 then fF else if t = 2 then fb else fa

/-- Two classes and a leaf in boxes. -/
structure A3 (w wk : World) (ga gb g gs : Nat) (fa fF fb : Nat → Bool) : Prop where
  two : A2 w wk ga gb fa fb
  c : wk.cell? ⟨g, 0, none⟩ = some (.slice (some ⟨gs, 0, none⟩) 4 4) ∧ wk.cell? ⟨g, 1, none⟩ = some (.int .i64 1)
  l : Lf wk (some ⟨gs, 0, none⟩) 4 (pal fa fF fb)

theorem A3.grow {w wk w' : World} {ga gb g gs : Nat} {fa fF fb : Nat → Bool} (h : A3 w wk ga gb g gs fa fF fb) (b : Below wk.heap.size wk w') : A3 w w' ga gb g gs fa fF fb :=
  ⟨h.two.grow b, two_below h.c b (World.block_lt_of_cell? wk _ h.c.1), h.l.grow b⟩

/-- Its row. -/
def o16 (fa fF fb : Nat → Bool) : Obj := .cells #[.int .u64 ((wd fa 0 : Nat) : Int), .int .u64 ((wd fa 1 : Nat) : Int), .int .u64 ((wd fa 2 : Nat) : Int), .int .u64 ((wd fa 3 : Nat) : Int), .int .u64 ((wd fF 0 : Nat) : Int), .int .u64 ((wd fF 1 : Nat) : Int), .int .u64 ((wd fF 2 : Nat) : Int), .int .u64 ((wd fF 3 : Nat) : Int), .int .u64 ((wd fb 0 : Nat) : Int), .int .u64 ((wd fb 1 : Nat) : Int), .int .u64 ((wd fb 2 : Nat) : Int), .int .u64 ((wd fb 3 : Nat) : Int), .int .u64 ((wd fa 0 : Nat) : Int), .int .u64 ((wd fa 1 : Nat) : Int), .int .u64 ((wd fa 2 : Nat) : Int), .int .u64 ((wd fa 3 : Nat) : Int)] 67

theorem cl16 (v : World) (fa fF fb : Nat → Bool) : Cl (v.alloc (o16 fa fF fb)) v.heap.size 0 4 (pal fa fF fb) := by
  have hb : (v.alloc (o16 fa fF fb)).heap[v.heap.size]? = some (o16 fa fF fb) := by show (v.heap.push _)[v.heap.size]? = _; simp
  intro t ht k hk
  unfold World.cell?
  rw [hb]
  match t, ht with
  | 0, _ =>
    show _ = some (Value.int .u64 ((wd fa k : Nat) : Int))
    match k, hk with
    | 0, _ => rfl
    | 1, _ => rfl
    | 2, _ => rfl
    | 3, _ => rfl
  | 1, _ =>
    show _ = some (Value.int .u64 ((wd fF k : Nat) : Int))
    match k, hk with
    | 0, _ => rfl
    | 1, _ => rfl
    | 2, _ => rfl
    | 3, _ => rfl
  | 2, _ =>
    show _ = some (Value.int .u64 ((wd fb k : Nat) : Int))
    match k, hk with
    | 0, _ => rfl
    | 1, _ => rfl
    | 2, _ => rfl
    | 3, _ => rfl
  | 3, _ =>
    show _ = some (Value.int .u64 ((wd fa k : Nat) : Int))
    match k, hk with
    | 0, _ => rfl
    | 1, _ => rfl
    | 2, _ => rfl
    | 3, _ => rfl

theorem al_below (v : World) (o : Obj) : Below v.heap.size v (v.alloc o) := (Below.refl _ _).alloc (Nat.le_refl _) _

theorem al_size (v : World) (o : Obj) : (v.alloc o).heap.size = v.heap.size + 1 := by show (v.heap.push _).size = _; simp

theorem lf16 (v : World) (fa fF fb : Nat → Bool) : Lf (v.alloc (o16 fa fF fb)) (some ⟨v.heap.size, 0, none⟩) 4 (pal fa fF fb) :=
  ⟨by omega, fun _ => ⟨v.heap.size, 0, rfl, by rw [al_size]; omega, cl16 v fa fF fb⟩⟩

theorem a3_c {w vk : World} {ga gb : Nat} {fa fF fb : Nat → Bool} (t : A2 w vk ga gb fa fb) : A3 w ((vk.alloc (o16 fa fF fb)).alloc (.cells #[.slice (some ⟨vk.heap.size, 0, none⟩) 4 4, .int .i64 1] 34)) ga gb (vk.heap.size + 1) vk.heap.size fa fF fb := by
  obtain ⟨v, x⟩ := lbox (vk.alloc (o16 fa fF fb)) (.slice (some ⟨vk.heap.size, 0, none⟩) 4 4) (.int .i64 1)
  have e := x.eq
  have h0 := x.c0
  have h1 := x.c1
  rw [al_size] at h0 h1
  rw [← e]
  exact ⟨(t.grow (al_below _ _)).grow x.bel, ⟨h0, h1⟩, (lf16 vk fa fF fb).grow x.bel⟩

theorem a3_b {w vk : World} {ga gb : Nat} {fa fF fb : Nat → Bool} (t : A2 w vk ga gb fa fb) : A3 w ((vk.alloc (.cells #[.slice (some ⟨vk.heap.size + 1, 0, none⟩) 4 4, .int .i64 1] 34)).alloc (o16 fa fF fb)) ga gb vk.heap.size (vk.heap.size + 1) fa fF fb := by
  obtain ⟨v, x⟩ := lbox vk (.slice (some ⟨vk.heap.size + 1, 0, none⟩) 4 4) (.int .i64 1)
  have e := x.eq
  have hl := lf16 v fa fF fb
  rw [x.size] at hl
  rw [← e]
  exact ⟨(t.grow x.bel).grow (al_below _ _), two_below ⟨x.c0, x.c1⟩ (al_below v (o16 fa fF fb)) (by rw [x.size]; omega), hl⟩

theorem a3_a {w vk : World} {ga gb g : Nat} {fa fF fb : Nat → Bool} (t : A2 w vk ga gb fa fb) (z : Zl vk gb g) (hab : ga < gb) (hwa : w.heap.size ≤ ga) (hgt : 2 < w.heap.size) :
    A3 w ((put2 vk g (.slice (some ⟨vk.heap.size, 0, none⟩) 4 4) (.int .i64 1)).alloc (o16 fa fF fb)) ga gb g vk.heap.size fa fF fb := by
  have hw := put2_wrote (v := vk) (b := g) (.slice (some ⟨vk.heap.size, 0, none⟩) 4 4) (.int .i64 1)
  have hc := put2_cells (x := .slice (some ⟨vk.heap.size, 0, none⟩) 4 4) (y := .int .i64 1) z.1.1 z.1.2
  have hg := z.2.2.1
  have hb : Below w.heap.size vk (put2 vk g (.slice (some ⟨vk.heap.size, 0, none⟩) 4 4) (.int .i64 1)) := hw.below (fun b' o e => by omega)
  have t2 : A2 w (put2 vk g (.slice (some ⟨vk.heap.size, 0, none⟩) 4 4) (.int .i64 1)) ga gb fa fb := ⟨t.bel.trans hb, hw.fam t.a (fun _ _ e => by omega), hw.fam t.b (fun _ _ e => by omega), t.tab.below hb hgt⟩
  have hl := lf16 (put2 vk g (.slice (some ⟨vk.heap.size, 0, none⟩) 4 4) (.int .i64 1)) fa fF fb
  rw [hw.size] at hl
  exact ⟨t2.grow (al_below _ _), two_below hc (al_below _ _) (by rw [hw.size]; exact z.2.2.2), hl⟩

/-- .. and kinds, and places. -/
structure A4 (w wk : World) (ga gb g gs gk gw : Nat) (fa fF fb : Nat → Bool) : Prop where
  a : A3 w wk ga gb g gs fa fF fb
  k : Fam wk gk 0 4 (wi fa)
  l : Fam wk gk 4 4 (wi fb)
  w : wk.cell? ⟨gw, 1, none⟩ = some (.int .i64 3)

theorem A4.grow {w wk w' : World} {ga gb g gs gk gw : Nat} {fa fF fb : Nat → Bool} (h : A4 w wk ga gb g gs gk gw fa fF fb) (b : Below wk.heap.size wk w') : A4 w w' ga gb g gs gk gw fa fF fb :=
  ⟨h.a.grow b, h.k.below b (h.k.lt (by omega)), h.l.below b (h.l.lt (by omega)), (b.cell (p := ⟨gw, 1, none⟩) (World.block_lt_of_cell? wk _ h.w)).trans h.w⟩

theorem A4.lts {w wk : World} {ga gb g gs gk gw : Nat} {fa fF fb : Nat → Bool} (h : A4 w wk ga gb g gs gk gw fa fF fb) : ga < wk.heap.size ∧ gb < wk.heap.size ∧ gk < wk.heap.size ∧ gw < wk.heap.size ∧ g < wk.heap.size :=
  ⟨h.a.two.a.lt (by omega), h.a.two.b.lt (by omega), h.k.lt (by omega), World.block_lt_of_cell? wk _ h.w, World.block_lt_of_cell? wk _ h.a.c.1⟩

theorem c44 {w : World} {b : Nat} {f : Nat → Bool} (h : Fam w b 4 4 (wi f)) : w.cell? ⟨b, 4, none⟩ = some (.int .u64 (wd f 0 : Nat)) ∧ w.cell? ⟨b, 5, none⟩ = some (.int .u64 (wd f 1 : Nat)) ∧ w.cell? ⟨b, 6, none⟩ = some (.int .u64 (wd f 2 : Nat)) ∧ w.cell? ⟨b, 7, none⟩ = some (.int .u64 (wd f 3 : Nat)) :=
  ⟨h 0 (by omega), h 1 (by omega), h 2 (by omega), h 3 (by omega)⟩

end Cls
end Go.Proofs.YtbnnobeahliffaaGreatDoor
