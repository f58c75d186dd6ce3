/- An array of three numbers in a box of its own. Nothing of the program but its table of primes. -/
import Derived.Test.YtlogdjhnhnfbkaaDoorMem
import Derived.Test.YtlogdjhnhnfbkaaDoorMathA
import Derived.Test.YtlogdjhnhnfbkaaDoorProg
namespace Go.Proofs.YtlogdjhnhnfbkaaDoor
open Go.RowKit Res

theorem fam_box3 (w : World) (x y z : Int) (ty : TypeId) : Fam (w.alloc (.cells #[.int .u64 x, .int .u64 y, .int .u64 z] ty)) w.heap.size 0 3 (r3 x y z) := by
  intro t ht
  have hb : (w.alloc (.cells #[.int .u64 x, .int .u64 y, .int .u64 z] ty)).heap[w.heap.size]? = some (.cells #[.int .u64 x, .int .u64 y, .int .u64 z] ty) := by show (w.heap.push _)[w.heap.size]? = _; simp
  unfold World.cell?
  rw [hb, Nat.zero_add]
  match t, ht with
  | 0, _ => rfl
  | 1, _ => rfl
  | 2, _ => rfl
theorem wrt_box3 (w : World) (x y z : Int) (ty : TypeId) : Wrt (w.alloc (.cells #[.int .u64 x, .int .u64 y, .int .u64 z] ty)) w.heap.size 0 3 := by
  intro t _
  have hb : (w.alloc (.cells #[.int .u64 x, .int .u64 y, .int .u64 z] ty)).heap[w.heap.size]? = some (.cells #[.int .u64 x, .int .u64 y, .int .u64 z] ty) := by show (w.heap.push _)[w.heap.size]? = _; simp
  unfold World.frozen?
  rw [hb]
  simp
/-- A new box, and what is known of it. -/
structure Box3 (w v : World) (x y z : Int) (ty : TypeId) : Prop where
  eq : v = w.alloc (.cells #[.int .u64 x, .int .u64 y, .int .u64 z] ty)
  fam : Fam v w.heap.size 0 3 (r3 x y z)
  wrt : Wrt v w.heap.size 0 3
  bel : Below w.heap.size w v
  size : v.heap.size = w.heap.size + 1
theorem box3 (w : World) (x y z : Int) (ty : TypeId) : ∃ v, Box3 w v x y z ty :=
  ⟨_, rfl, fam_box3 _ _ _ _ _, wrt_box3 _ _ _ _ _, (Below.refl _ _).alloc (Nat.le_refl _) _, by show (w.heap.push _).size = _; simp⟩
theorem Box3.tab {w v : World} {x y z : Int} {ty : TypeId} (h : Box3 w v x y z ty) (hT : Tab w) : Tab v := hT.below h.bel (tab_lt hT)
/-- The three cells. -/
theorem Fam.three {w : World} {b : Nat} {F : Nat → Int} (h : Fam w b 0 3 F) : w.cell? ⟨b, 0, none⟩ = some (.int .u64 (F 0)) ∧ w.cell? ⟨b, 1, none⟩ = some (.int .u64 (F 1)) ∧ w.cell? ⟨b, 2, none⟩ = some (.int .u64 (F 2)) :=
  ⟨h.zero 0 (by omega), h.zero 1 (by omega), h.zero 2 (by omega)⟩
theorem Fam.c3 {w : World} {b : Nat} {x y z : Int} (h : Fam w b 0 3 (r3 x y z)) : w.cell? ⟨b, 0, none⟩ = some (.int .u64 x) ∧ w.cell? ⟨b, 1, none⟩ = some (.int .u64 y) ∧ w.cell? ⟨b, 2, none⟩ = some (.int .u64 z) := h.three
theorem Wrt.c3 {w : World} {b : Nat} (h : Wrt w b 0 3) : w.frozen? ⟨b, 0, none⟩ = false ∧ w.frozen? ⟨b, 1, none⟩ = false ∧ w.frozen? ⟨b, 2, none⟩ = false := ⟨h.zero 0 (by omega), h.zero 1 (by omega), h.zero 2 (by omega)⟩
/-- An array result: what stands in its variable. -/
theorem results_box3 {fn : Func} {p : Tmp} (h : fn.results = #[.cell p 131]) (tmps : Array Value) (v : World) (b : Nat) (x y z : Int) (hp : tmps.getD p undef = .pointer (some ⟨b, 0, none⟩))
    (c0 : v.cell? ⟨b, 0, none⟩ = some (.int .u64 x)) (c1 : v.cell? ⟨b, 1, none⟩ = some (.int .u64 y)) (c2 : v.cell? ⟨b, 2, none⟩ = some (.int .u64 z)) :
    (results fn tmps).run Tryd.prog v = .ok (.agg #[.int .u64 x, .int .u64 y, .int .u64 z]) v := by
  have hp' : tmps[p]?.getD undef = .pointer (some ⟨b, 0, none⟩) := by simpa using hp
  simp [results, h, hp', asAddr, go_sem, c0, c1, c2]
theorem set3_fam {v : World} {b : Nat} {F : Nat → Int} (hF : Fam v b 0 3 F) (x y z : Int) : Fam (((v.setCell ⟨b, 0, none⟩ (.int .u64 x)).setCell ⟨b, 1, none⟩ (.int .u64 y)).setCell ⟨b, 2, none⟩ (.int .u64 z)) b 0 3 (r3 x y z) :=
  (((hF.setCell_at (j := 0) (by omega) rfl x).setCell_at (j := 1) (by omega) rfl y).setCell_at (j := 2) (by omega) rfl z).congr (fun t ht => by
    match t, ht with
    | 0, _ => rfl
    | 1, _ => rfl
    | 2, _ => rfl)
theorem results_set3 {fn : Func} {p : Tmp} (h : fn.results = #[.cell p 131]) (tmps : Array Value) (v : World) (b : Nat) (x y z : Int) (hp : tmps.getD p undef = .pointer (some ⟨b, 0, none⟩)) {F : Nat → Int} (hF : Fam v b 0 3 F) :
    (results fn tmps).run Tryd.prog (((v.setCell ⟨b, 0, none⟩ (.int .u64 x)).setCell ⟨b, 1, none⟩ (.int .u64 y)).setCell ⟨b, 2, none⟩ (.int .u64 z)) = .ok (.agg #[.int .u64 x, .int .u64 y, .int .u64 z]) (((v.setCell ⟨b, 0, none⟩ (.int .u64 x)).setCell ⟨b, 1, none⟩ (.int .u64 y)).setCell ⟨b, 2, none⟩ (.int .u64 z)) :=
  results_box3 h tmps _ b x y z hp (set3_fam hF x y z).three.1 (set3_fam hF x y z).three.2.1 (set3_fam hF x y z).three.2.2
/-- Three cells that are written. -/
theorem below_three {B : Nat} {w v : World} (h : Below B w v) {b : Nat} (hb : B ≤ b) (x y z : Value) : Below B w (((v.setCell ⟨b, 0, none⟩ x).setCell ⟨b, 1, none⟩ y).setCell ⟨b, 2, none⟩ z) :=
  h.trans ((((Wrote.refl (fun b' _ => b' = b) v).setCell rfl x).setCell rfl y).setCell rfl z |>.below (fun b' o e => by omega))
end Go.Proofs.YtlogdjhnhnfbkaaDoor
