/- A class in a box of its own. Nothing of the program but its types' numbers. -/
import Derived.Test.YtodjjajofiaehaaDoorNttFill
import Derived.Test.YtodjjajofiaehaaDoorClsMath
import Derived.Test.YtodjjajofiaehaaDoorProg
namespace Go.Proofs.YtodjjajofiaehaaDoor
open Go.RowKit
namespace Cls

theorem undrew {B : Nat} {a w : World} (h : Below B a.drew w) : Below B a w := ⟨h.os, h.tape, h.output, h.size, h.block⟩
def r4 (x y z u : Int) : Nat → Int := fun t => if t = 0 then x else if t = 1 then y else if t = 2 then z else u
theorem fam_box4 (w : World) (x y z u : Int) (ty : TypeId) : Fam (w.alloc (.cells #[.int .u64 x, .int .u64 y, .int .u64 z, .int .u64 u] ty)) w.heap.size 0 4 (r4 x y z u) := by
  intro t ht
  have hb : (w.alloc (.cells #[.int .u64 x, .int .u64 y, .int .u64 z, .int .u64 u] ty)).heap[w.heap.size]? = some (.cells #[.int .u64 x, .int .u64 y, .int .u64 z, .int .u64 u] ty) := by show (w.heap.push _)[w.heap.size]? = _; simp
  unfold World.cell?
  rw [hb, Nat.zero_add]
  match t, ht with
  | 0, _ => rfl
  | 1, _ => rfl
  | 2, _ => rfl
  | 3, _ => rfl
theorem wrt_box4 (w : World) (x y z u : Int) (ty : TypeId) : Wrt (w.alloc (.cells #[.int .u64 x, .int .u64 y, .int .u64 z, .int .u64 u] ty)) w.heap.size 0 4 := by
  intro t _
  have hb : (w.alloc (.cells #[.int .u64 x, .int .u64 y, .int .u64 z, .int .u64 u] ty)).heap[w.heap.size]? = some (.cells #[.int .u64 x, .int .u64 y, .int .u64 z, .int .u64 u] ty) := by show (w.heap.push _)[w.heap.size]? = _; simp
  unfold World.frozen?
  rw [hb]
  simp
theorem r4_wi (f : Nat → Bool) : ∀ t, t < 4 → r4 (wd f 0) (wd f 1) (wd f 2) (wd f 3) t = wi f t := fun t ht => by
  unfold r4 wi
  generalize wd f = W
  match t, ht with
  | 0, _ => rfl
  | 1, _ => rfl
  | 2, _ => rfl
  | 3, _ => rfl
theorem r4_zero : ∀ t, t < 4 → r4 0 0 0 0 t = wi (fun _ => false) t := fun t ht => by
  have : wi (fun _ => false) t = 0 := by unfold wi; rw [wd_none]; rfl
  rw [this]
  unfold r4
  simp
/-- A new box, and what is known of it: it holds the set f. -/
structure Box (w v : World) (o : Obj) (f : Nat → Bool) : Prop where
  eq : v = w.alloc o
  fam : Fam v w.heap.size 0 4 (wi f)
  wrt : Wrt v w.heap.size 0 4
  bel : Below w.heap.size w v
  size : v.heap.size = w.heap.size + 1
theorem box (w : World) (f : Nat → Bool) : ∃ v, Box w v (.cells #[.int .u64 ((wd (f) 0 : Nat) : Int), .int .u64 ((wd (f) 1 : Nat) : Int), .int .u64 ((wd (f) 2 : Nat) : Int), .int .u64 ((wd (f) 3 : Nat) : Int)] 26) f :=
  ⟨_, rfl, (fam_box4 _ _ _ _ _ _).congr (r4_wi f), wrt_box4 _ _ _ _ _ _, (Below.refl _ _).alloc (Nat.le_refl _) _, by show (w.heap.push _).size = _; simp⟩
/-- The same over any four numbers: what the walk needs of it. -/
theorem boxW (w : World) (W : Nat → Nat) : ∃ v, v = w.alloc (.cells #[.int .u64 ((W 0 : Nat) : Int), .int .u64 ((W 1 : Nat) : Int), .int .u64 ((W 2 : Nat) : Int), .int .u64 ((W 3 : Nat) : Int)] 26) ∧ Below w.heap.size w v ∧ v.heap.size = w.heap.size + 1 ∧ Fam v w.heap.size 0 4 (fun k => ((W k : Nat) : Int)) :=
  ⟨_, rfl, (Below.refl _ _).alloc (Nat.le_refl _) _, by show (w.heap.push _).size = _; simp, (fam_box4 _ _ _ _ _ _).congr (fun t ht => by
    match t, ht with
    | 0, _ => rfl
    | 1, _ => rfl
    | 2, _ => rfl
    | 3, _ => rfl)⟩
theorem box0 (w : World) : ∃ v, Box w v (.cells #[.int .u64 0, .int .u64 0, .int .u64 0, .int .u64 0] 26) (fun _ => false) :=
  ⟨_, rfl, (fam_box4 _ _ _ _ _ _).congr r4_zero, wrt_box4 _ _ _ _ _ _, (Below.refl _ _).alloc (Nat.le_refl _) _, by show (w.heap.push _).size = _; simp⟩
/-- The four cells. -/
theorem c4 {w : World} {b : Nat} {f : Nat → Bool} (h : Fam w b 0 4 (wi f)) : w.cell? ⟨b, 0, none⟩ = some (.int .u64 (wd f 0 : Nat)) ∧ w.cell? ⟨b, 1, none⟩ = some (.int .u64 (wd f 1 : Nat)) ∧ w.cell? ⟨b, 2, none⟩ = some (.int .u64 (wd f 2 : Nat)) ∧ w.cell? ⟨b, 3, none⟩ = some (.int .u64 (wd f 3 : Nat)) :=
  ⟨h.zero 0 (by omega), h.zero 1 (by omega), h.zero 2 (by omega), h.zero 3 (by omega)⟩
theorem f4 {w : World} {b : Nat} (h : Wrt w b 0 4) : w.frozen? ⟨b, 0, none⟩ = false ∧ w.frozen? ⟨b, 1, none⟩ = false ∧ w.frozen? ⟨b, 2, none⟩ = false ∧ w.frozen? ⟨b, 3, none⟩ = false := ⟨h.zero 0 (by omega), h.zero 1 (by omega), h.zero 2 (by omega), h.zero 3 (by omega)⟩
/-- Four cells, written. -/
def set4 (v : World) (b : Nat) (f : Nat → Bool) : World := (((v.setCell ⟨b, 0, none⟩ (.int .u64 (wd f 0 : Nat))).setCell ⟨b, 1, none⟩ (.int .u64 (wd f 1 : Nat))).setCell ⟨b, 2, none⟩ (.int .u64 (wd f 2 : Nat))).setCell ⟨b, 3, none⟩ (.int .u64 (wd f 3 : Nat))
theorem set4_fam {v : World} {b : Nat} {F : Nat → Int} (hF : Fam v b 0 4 F) (f : Nat → Bool) : Fam (set4 v b f) b 0 4 (wi f) :=
  ((((hF.setCell_at (j := 0) (by omega) rfl _).setCell_at (j := 1) (by omega) rfl _).setCell_at (j := 2) (by omega) rfl _).setCell_at (j := 3) (by omega) rfl _).congr (fun t ht => by
    unfold wi
    generalize wd f = W
    match t, ht with
    | 0, _ => rfl
    | 1, _ => rfl
    | 2, _ => rfl
    | 3, _ => rfl)
theorem set4_wrt {v : World} {b b' n : Nat} (h : Wrt v b' 0 n) (f : Nat → Bool) : Wrt (set4 v b f) b' 0 n := (((h.setCell _ _).setCell _ _).setCell _ _).setCell _ _
theorem set4_wrote {v : World} {b : Nat} (f : Nat → Bool) : Wrote (fun b' _ => b' = b) v (set4 v b f) := ((((Wrote.refl (fun b' _ => b' = b) v).setCell rfl _).setCell rfl _).setCell rfl _).setCell rfl _
theorem set4_below {B : Nat} {w v : World} (h : Below B w v) {b : Nat} (hb : B ≤ b) (f : Nat → Bool) : Below B w (set4 v b f) := h.trans ((set4_wrote f).below (fun b' o e => by omega))
/-- An array result: what stands in its variable. -/
theorem results_box4 {fn : Func} {p : Tmp} (h : fn.results = #[.cell p 26]) (tmps : Array Value) (v : World) (b : Nat) (f : Nat → Bool) (hp : tmps.getD p undef = .pointer (some ⟨b, 0, none⟩)) (hF : Fam v b 0 4 (wi f)) :
    (results fn tmps).run Tryd.prog v = .ok (.agg #[.int .u64 ((wd (f) 0 : Nat) : Int), .int .u64 ((wd (f) 1 : Nat) : Int), .int .u64 ((wd (f) 2 : Nat) : Int), .int .u64 ((wd (f) 3 : Nat) : Int)]) v := by
  have hp' : tmps[p]?.getD undef = .pointer (some ⟨b, 0, none⟩) := by simpa using hp
  obtain ⟨c0, c1, c2, c3⟩ := c4 hF
  simp [results, h, hp', asAddr, go_sem, c0, c1, c2, c3]
theorem results_set4 {fn : Func} {p : Tmp} (h : fn.results = #[.cell p 26]) (tmps : Array Value) (v : World) (b : Nat) (f : Nat → Bool) (hp : tmps.getD p undef = .pointer (some ⟨b, 0, none⟩)) {F : Nat → Int} (hF : Fam v b 0 4 F) :
    (results fn tmps).run Tryd.prog (set4 v b f) = .ok (.agg #[.int .u64 ((wd (f) 0 : Nat) : Int), .int .u64 ((wd (f) 1 : Nat) : Int), .int .u64 ((wd (f) 2 : Nat) : Int), .int .u64 ((wd (f) 3 : Nat) : Int)]) (set4 v b f) :=
  results_box4 h tmps _ b f hp (set4_fam hF f)
theorem get4 (f : Nat → Bool) (k : Nat) (hk : k < 4) (h : k < ([.int .u64 ((wd f 0 : Nat) : Int), .int .u64 ((wd f 1 : Nat) : Int), .int .u64 ((wd f 2 : Nat) : Int), .int .u64 ((wd f 3 : Nat) : Int)] : List Value).length) : ([.int .u64 ((wd f 0 : Nat) : Int), .int .u64 ((wd f 1 : Nat) : Int), .int .u64 ((wd f 2 : Nat) : Int), .int .u64 ((wd f 3 : Nat) : Int)] : List Value)[k]'h = .int .u64 ((wd f k : Nat) : Int) := by
  generalize wd f = W at *
  match k, hk with
  | 0, _ => rfl
  | 1, _ => rfl
  | 2, _ => rfl
  | 3, _ => rfl
end Cls
end Go.Proofs.YtodjjajofiaehaaDoor
