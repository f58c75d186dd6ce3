/- Rows of sets of bytes: plain. Rows of classes in memory. Nothing of the program but its types' numbers. Contracts of slices.Index, slices.Contains of classes. Contracts of leaf.free, leaf.Right, leaf.Bound, leaf.Plain. Contracts of the document's own answers of layer 7: free, Right, Bound, Plain. Contracts of slices.Equal of classes, leaf.Same, and of the document's Classes, Same, Places. Rows of places that are appended to; contracts of leaf.Where, and of the document's Where, Places. Rows of classes that are appended to. Nothing of the program but its types' numbers. Contract of the document's Kinds. A map of classes that were met: what it tells. Nothing of the program but its types' numbers. Contract of leaf.Kinds. Contracts of leaf.Letters, and of the document's Letters. Contracts of leaf.Text, and of the document's Text. A call by its contract, as a step of a region that draws its order. Nothing of the program. Contract of the document's Text. -/
import Derived.Test.YtbnnobeahliffaaGreatDoorClsA
import Derived.CellFam
import Derived.BigQuiet
import Derived.RegionTactic
import Derived.BigRegion
import Derived.Deep.RegionWith
import Derived.Maps.OwnOps
import Derived.Maps.OwnSet
import Derived.Maps.Views
import Derived.DeepKeys4
import Derived.WalkArith
import Derived.Laws.IdiomStrings
import Derived.Laws.BytesString
import Derived.Laws.MakeOwn
import Derived.Deep.AppendLies
import Derived.Deep.RegionLaw
import Derived.WalkKit

namespace Go.Proofs.YtbnnobeahliffaaGreatDoor
open Go.RowKit
namespace Cls

/-- Has it all bytes? -/
def fr (f : Nat → Bool) : Bool := sm f (fun _ => true)

/-- Has it just one? -/
def sg (f : Nat → Bool) : Bool := cb f 0 256 == 1

/-- Which? -/
def bt (f : Nat → Bool) : Nat := if sg f = true then ((List.range 256).find? f).getD 0 else 0

theorem fr_iff (f : Nat → Bool) : fr f = true ↔ ∀ b, b < 256 → f b = true := sm_iff f _

theorem sm_refl (f : Nat → Bool) : sm f f = true := sm_true (fun _ _ => rfl)

theorem sm_comm (f g : Nat → Bool) : sm f g = sm g f := by
  rw [Bool.eq_iff_iff, sm_iff, sm_iff]
  exact ⟨fun h b hb => (h b hb).symm, fun h b hb => (h b hb).symm⟩

theorem sm_trans {f g h : Nat → Bool} (a : sm f g = true) (b : sm g h = true) : sm f h = true :=
  sm_true (fun x hx => ((sm_iff f g).1 a x hx).trans ((sm_iff g h).1 b x hx))

theorem sm_left {f g h : Nat → Bool} (a : sm f g = true) : sm f h = sm g h := by
  rw [Bool.eq_iff_iff]
  exact ⟨fun b => sm_trans (by rw [sm_comm]; exact a) b, fun b => sm_trans a b⟩

theorem cb_le256 (f : Nat → Bool) (n : Nat) : cb f 0 n ≤ n := by
  induction n with
  | zero => simp [cb]
  | succ n ih => rw [cb_snoc]; have := Bool.toNat_le (f n); omega

theorem cb_full (f : Nat → Bool) (n : Nat) : cb f 0 n = n ↔ ∀ x, x < n → f x = true := by
  induction n with
  | zero => simp [cb]
  | succ n ih =>
    rw [cb_snoc]
    have h1 := cb_le256 f n
    have h2 := Bool.toNat_le (f n)
    constructor
    · intro h x hx
      have e1 : cb f 0 n = n := by omega
      have e2 : (f n).toNat = 1 := by omega
      by_cases hx2 : x < n
      · exact ih.1 e1 x hx2
      · rw [show x = n by omega]
        cases e : f n with
        | true => rfl
        | false => rw [e] at e2; simp at e2
    · intro h
      rw [ih.2 (fun x hx => h x (by omega)), h n (by omega)]
      rfl

theorem fr_size (f : Nat → Bool) : fr f = (cb f 0 256 == 256) := by
  rw [Bool.eq_iff_iff, fr_iff, beq_iff_eq, cb_full]

theorem em_size (f : Nat → Bool) : sm f (fun _ => false) = (cb f 0 256 == 0) := by
  rw [Bool.eq_iff_iff, sm_iff, beq_iff_eq, cb_none]

theorem sgl_sg (f : Nat → Bool) : Sgl f (bt f) (sg f) := by
  unfold bt
  by_cases h : sg f = true
  · rw [if_pos h]
    have h1 : cb f 0 256 = 1 := by simpa [sg] using h
    obtain ⟨b, hb, hx⟩ := (cb_one f 256).1 h1
    refine Or.inl ⟨h, ?_⟩
    have hf : (List.range 256).find? f = some b := by
      rw [List.find?_range_eq_some]
      refine ⟨by rw [hx b hb]; simp, by simpa using hb, fun j hj => ?_⟩
      rw [hx j (by omega)]
      simp
      omega
    rw [hf]
    exact ⟨hb, hx⟩
  · rw [if_neg h]
    refine Or.inr ⟨by simpa using h, rfl, fun hc => h ?_⟩
    have := (cb_one f 256).2 hc
    simp [sg, this]

theorem bt_lt (f : Nat → Bool) : bt f < 256 := by
  rcases sgl_sg f with ⟨_, h, _⟩ | ⟨_, h, _⟩ <;> omega

theorem sgl_eq {f : Nat → Bool} {b : Nat} {t : Bool} (h : Sgl f b t) : b = bt f ∧ t = sg f := h.one (sgl_sg f)

/-- Of one byte. -/
theorem sg_one {f : Nat → Bool} {b : Nat} (hb : b < 256) (h : ∀ x, x < 256 → f x = (x == b)) : sg f = true ∧ bt f = b := by
  have := sgl_eq (Or.inl ⟨rfl, hb, h⟩ : Sgl f b true)
  exact ⟨this.2.symm, this.1.symm⟩

/-- Is one of the first n empty? -/
def emp (P : Nat → Nat → Bool) (n : Nat) : Bool := (List.range n).any fun t => sm (P t) (fun _ => false)

def rgt (P : Nat → Nat → Bool) (n : Nat) (K : Int) : Bool := decide (1 ≤ n ∧ n ≤ 64 ∧ 0 ≤ K ∧ K ≤ 64) && !emp P n

def pln (P : Nat → Nat → Bool) (n : Nat) : Bool := (List.range n).all fun t => sg (P t) || fr (P t)

def als (P : Nat → Nat → Bool) (n : Nat) : Bool := (List.range n).all fun t => sg (P t)

def bnd (P : Nat → Nat → Bool) (n : Nat) : Nat := ((List.range n).filter fun t => !fr (P t)).length

def wh (P : Nat → Nat → Bool) (c : Nat → Bool) (n : Nat) : List Nat := (List.range n).filter fun t => sm (P t) c

/-- The kinds among the first n. -/
def kd (P : Nat → Nat → Bool) : Nat → List (Nat → Bool)
  | 0 => []
  | n + 1 => if fr (P n) || (kd P n).any (fun g => sm g (P n)) then kd P n else kd P n ++ [P n]

theorem bnd_zero (P : Nat → Nat → Bool) : bnd P 0 = 0 := rfl

theorem bnd_succ (P : Nat → Nat → Bool) (n : Nat) : bnd P (n + 1) = bnd P n + (!fr (P n)).toNat := by
  unfold bnd
  rw [List.range_succ, List.filter_append, List.length_append]
  cases h : fr (P n) <;> simp [h]

theorem bnd_le (P : Nat → Nat → Bool) (n : Nat) : bnd P n ≤ n := by
  unfold bnd
  have := List.length_filter_le (fun t => !fr (P t)) (List.range n)
  simpa using this

theorem wh_zero (P : Nat → Nat → Bool) (c : Nat → Bool) : wh P c 0 = [] := rfl

theorem wh_succ (P : Nat → Nat → Bool) (c : Nat → Bool) (n : Nat) : wh P c (n + 1) = if sm (P n) c then wh P c n ++ [n] else wh P c n := by
  unfold wh
  rw [List.range_succ, List.filter_append]
  cases h : sm (P n) c <;> simp [h]

theorem wh_len (P : Nat → Nat → Bool) (c : Nat → Bool) (n : Nat) : (wh P c n).length ≤ n := by
  have := List.length_filter_le (fun t => sm (P t) c) (List.range n)
  simpa [wh] using this

theorem kd_len (P : Nat → Nat → Bool) (n : Nat) : (kd P n).length ≤ n := by
  induction n with
  | zero => simp [kd]
  | succ n ih =>
    unfold kd
    split
    · omega
    · rw [List.length_append]; simp; omega

theorem any_range {q : Nat → Bool} {n t : Nat} (ht : t < n) (h : q t = true) : (List.range n).any q = true := by
  rw [List.any_eq_true]
  exact ⟨t, by simpa using ht, h⟩

theorem any_range_no {q : Nat → Bool} {n : Nat} (h : ∀ t, t < n → q t = false) : (List.range n).any q = false := by
  rw [List.any_eq_false]
  intro t ht
  rw [h t (by simpa using ht)]
  simp

theorem all_range {q : Nat → Bool} {n : Nat} (h : ∀ t, t < n → q t = true) : (List.range n).all q = true := by
  rw [List.all_eq_true]
  intro t ht
  exact h t (by simpa using ht)

theorem all_range_no {q : Nat → Bool} {n t : Nat} (ht : t < n) (h : q t = false) : (List.range n).all q = false := by
  rw [List.all_eq_false]
  exact ⟨t, by simpa using ht, by rw [h]; simp⟩

end Cls

end Go.Proofs.YtbnnobeahliffaaGreatDoor

namespace Go.Proofs.YtbnnobeahliffaaGreatDoor
open Go.RowKit
namespace Cls

/-- n classes from offset o of block b on. -/
def Cl (w : World) (b o n : Nat) (P : Nat → Nat → Bool) : Prop := ∀ t, t < n → ∀ k, k < 4 → w.cell? ⟨b, o + t * 4 + k, none⟩ = some (.int .u64 ((wd (P t) k : Nat) : Int))

theorem Cl.below {B : Nat} {w w' : World} {b o n : Nat} {P : Nat → Nat → Bool} (h : Cl w b o n P) (hb : Below B w w') (hB : b < B) : Cl w' b o n P := fun t ht k hk => (hb.cell (p := ⟨b, o + t * 4 + k, none⟩) hB).trans (h t ht k hk)

theorem Cl.lt {w : World} {b o n : Nat} {P : Nat → Nat → Bool} (h : Cl w b o n P) (hn : 0 < n) : b < w.heap.size := World.block_lt_of_cell? w _ (h 0 hn 0 (by omega))

theorem Cl.four {w : World} {b o n : Nat} {P : Nat → Nat → Bool} (h : Cl w b o n P) {t : Nat} (ht : t < n) : w.cell? ⟨b, o + t * 4, none⟩ = some (.int .u64 ((wd (P t) 0 : Nat) : Int)) ∧ w.cell? ⟨b, o + t * 4 + 1, none⟩ = some (.int .u64 ((wd (P t) 1 : Nat) : Int)) ∧ w.cell? ⟨b, o + t * 4 + 2, none⟩ = some (.int .u64 ((wd (P t) 2 : Nat) : Int)) ∧ w.cell? ⟨b, o + t * 4 + 3, none⟩ = some (.int .u64 ((wd (P t) 3 : Nat) : Int)) :=
  ⟨h t ht 0 (by omega), h t ht 1 (by omega), h t ht 2 (by omega), h t ht 3 (by omega)⟩

/-- A slice of n classes. -/
structure Lf (w : World) (ao : Option Addr) (n : Nat) (P : Nat → Nat → Bool) : Prop where
  small : n ≤ 4398046511104
  lies : 1 ≤ n → ∃ b o, ao = some ⟨b, o, none⟩ ∧ b < w.heap.size ∧ Cl w b o n P

theorem Lf.grow {w w' : World} {ao : Option Addr} {n : Nat} {P : Nat → Nat → Bool} (h : Lf w ao n P) (hb : Below w.heap.size w w') : Lf w' ao n P :=
  ⟨h.small, fun hn => by
    obtain ⟨b, o, e, hlt, hc⟩ := h.lies hn
    exact ⟨b, o, e, Nat.lt_of_lt_of_le hlt hb.size, hc.below hb hlt⟩⟩

theorem Lf.drewN {w : World} {ao : Option Addr} {n : Nat} {P : Nat → Nat → Bool} (h : Lf w ao n P) (q : Nat) : Lf (w.drewN q) ao n P := ⟨h.small, h.lies⟩

/-- A leaf (or whatever has two cells) in a box of its own. -/
structure LBox (w v : World) (x y : Value) : Prop where
  eq : v = w.alloc (.cells #[x, y] 34)
  bel : Below w.heap.size w v
  c0 : v.cell? ⟨w.heap.size, 0, none⟩ = some x
  c1 : v.cell? ⟨w.heap.size, 1, none⟩ = some y
  size : v.heap.size = w.heap.size + 1

theorem lbox (w : World) (x y : Value) : ∃ v, LBox w v x y := by
  have hb : (w.alloc (.cells #[x, y] 34)).heap[w.heap.size]? = some (.cells #[x, y] 34) := by show (w.heap.push _)[w.heap.size]? = _; simp
  refine ⟨_, rfl, (Below.refl _ _).alloc (Nat.le_refl _) _, ?_, ?_, by show (w.heap.push _).size = _; simp⟩
  · unfold World.cell?; rw [hb]; rfl
  · unfold World.cell?; rw [hb]; rfl

/-- Two cells stay. -/
theorem two_below {B : Nat} {w w' : World} {b : Nat} {x y : Value} (h : w.cell? ⟨b, 0, none⟩ = some x ∧ w.cell? ⟨b, 1, none⟩ = some y) (hb : Below B w w') (hB : b < B) : w'.cell? ⟨b, 0, none⟩ = some x ∧ w'.cell? ⟨b, 1, none⟩ = some y :=
  ⟨(hb.cell (p := ⟨b, 0, none⟩) hB).trans h.1, (hb.cell (p := ⟨b, 1, none⟩) hB).trans h.2⟩

end Cls

end Go.Proofs.YtbnnobeahliffaaGreatDoor

namespace Go.Proofs.YtbnnobeahliffaaGreatDoor
open Go.RowKit
namespace Cls

set_option maxHeartbeats 1000000 in
theorem index_any (P : Nat → Nat → Bool) (f : Nat → Bool) (n cap : Nat) (ao : Option Addr) (w : World) (hl : Lf w ao n P) :
    Calls Tryz.prog 82 #[.slice ao n cap, .agg #[.int .u64 ((wd (f) 0 : Nat) : Int), .int .u64 ((wd (f) 1 : Nat) : Int), .int .u64 ((wd (f) 2 : Nat) : Int), .int .u64 ((wd (f) 3 : Nat) : Int)]] w fun e w' => (∃ r : Int, e = .returned (.int .i64 r) ∧ ((0 ≤ r ∧ r < 4398046511105 ∧ ∃ t, t < n ∧ sm f (P t) = true) ∨ (r = -1 ∧ ∀ t, t < n → sm f (P t) = false))) ∧ Below w.heap.size w w' := by
  obtain ⟨w1, b1⟩ := box w f
  have E1 : Hid _ := b1.eq
  have B1 : Hid (Below w.heap.size w w1) := b1.bel
  have HL : Hid (Lf w1 ao n P) := hl.grow b1.bel
  have F1 : Hid (Fam w1 w.heap.size 0 4 (wi f)) := b1.fam
  have hn := hl.small
  clear hl b1
  go_enter Tryz.func82, Tryz.ntmps82
  go_wp2_with fail
  rw [← E1.out]
  clear E1
  go_loopw [8] (fun vk wr => Below w1.heap.size w1 wr ∧ ∃ k : Nat, k ≤ n ∧ vk = .int .i64 k ∧ ∀ t, t < k → sm f (P t) = false) (fun vk _ => n - (intOf vk).toNat)
  case atStart => exact ⟨Below.refl _ _, 0, Nat.zero_le _, rfl, fun t ht => by omega⟩
  case round =>
    obtain ⟨hbel, k, hk, rfl, hno⟩ := hrel
    have HNO : Hid _ := hno
    have HB : Hid _ := hbel
    have HLr : Hid (Lf wr ao n P) := HL.out.grow hbel
    have F2 : Fam wr w.heap.size 0 4 (wi f) := F1.out.below hbel (F1.out.lt (by omega))
    have B2 : Hid (Below w.heap.size w wr) := B1.out.trans (hbel.mono B1.out.size)
    clear hbel hno
    by_cases hkn : k < n
    · obtain ⟨b, o, rfl, hb, hC⟩ := HLr.out.lies (by omega)
      obtain ⟨c0, c1, c2, c3⟩ := hC.four hkn
      obtain ⟨a0, a1, a2, a3⟩ := c4 F2
      have hkI : (k : Int) < (n : Int) := by omega
      clear hC F2
      go_wp2_with fail
      go_quiet (fail)
      have B3 : Hid (Below w.heap.size w (wr.drewN nq)) := below_drewN B2.out nq
      have HB3 : Hid (Below w1.heap.size w1 (wr.drewN nq)) := below_drewN HB.out nq
      by_cases hs : sm f (P k) = true
      · have HS : Hid _ := hs
        simp only [hs]
        go_wp2_with fail
        go_ret
        exact ⟨⟨(k : Int), rfl, Or.inl ⟨by omega, by omega, k, hkn, HS.out⟩⟩, B3.out⟩
      · have hs' : sm f (P k) = false := by simpa using hs
        have HS : Hid (∀ t, t < k + 1 → sm f (P t) = false) := fun t ht => by
          by_cases e : t = k
          · subst e; exact hs'
          · exact HNO.out t (by omega)
        simp only [hs']
        clear hs
        go_wp2_with fail
        go_roundw
        case rel => exact ⟨HB3.out, k + 1, by omega, by go_num, HS.out⟩
        case measure => simp [intOf]; omega
    · obtain rfl : k = n := by omega
      have HR : Hid _ := HNO.out
      clear F2
      go_wp2_with fail
      go_ret
      exact ⟨⟨-1, rfl, Or.inr ⟨rfl, HR.out⟩⟩, B2.out⟩

set_option maxHeartbeats 1000000 in
theorem contains_core (P : Nat → Nat → Bool) (f : Nat → Bool) (n cap : Nat) (ao : Option Addr) (w : World) (hl : Lf w ao n P) (t : Bool) (ht : t = (List.range n).any fun k => sm f (P k)) :
    Calls Tryz.prog 70 #[.slice ao n cap, .agg #[.int .u64 ((wd (f) 0 : Nat) : Int), .int .u64 ((wd (f) 1 : Nat) : Int), .int .u64 ((wd (f) 2 : Nat) : Int), .int .u64 ((wd (f) 3 : Nat) : Int)]] w fun e w' => e = .returned (.bool t) ∧ Below w.heap.size w w' := by
  obtain ⟨w1, b1⟩ := box w f
  have E1 : Hid _ := b1.eq
  have B1 : Hid (Below w.heap.size w w1) := b1.bel
  have c1 : Hid _ := index_any P f n cap ao w1 (hl.grow b1.bel)
  obtain ⟨a0, a1, a2, a3⟩ := c4 b1.fam
  have HT : Hid _ := ht
  clear hl b1 ht
  go_enter Tryz.func70, Tryz.ntmps70
  go_wp2_with fail
  rw [← E1.out]
  clear E1
  go_wp2_with fail
  refine Calls.mono (Hid.out c1) ?_; rintro e w2 ⟨⟨r, rfl, hr⟩, b2⟩
  have B2 : Hid (Below w.heap.size w w2) := B1.out.trans (b2.mono B1.out.size)
  have HR : Hid _ := hr
  clear b2 hr
  go_wp2_with fail
  go_ret
  refine ⟨?_, B2.out⟩
  rw [HT.out]
  rcases HR.out with ⟨h0, _, k, hk, hs⟩ | ⟨rfl, hs⟩
  · rw [any_range hk hs]; simp [h0]
  · rw [any_range_no hs]; rfl

theorem contains_none (P : Nat → Nat → Bool) (n cap : Nat) (ao : Option Addr) (w : World) (hl : Lf w ao n P) :
    Calls Tryz.prog 70 #[.slice ao n cap, .agg #[.int .u64 0, .int .u64 0, .int .u64 0, .int .u64 0]] w fun e w' => e = .returned (.bool (emp P n)) ∧ Below w.heap.size w w' := by
  have h := contains_core P (fun _ => false) n cap ao w hl (emp P n) (by unfold emp; congr 1; funext t; exact sm_comm _ _)
  have z : ∀ k, wd (fun _ => false) k = 0 := wd_none
  simp only [z] at h
  exact h

end Cls

end Go.Proofs.YtbnnobeahliffaaGreatDoor

namespace Go.Proofs.YtbnnobeahliffaaGreatDoor
open Go.RowKit
namespace Cls

theorem rgt_no {P : Nat → Nat → Bool} {n : Nat} {K : Int} (h : ¬ (1 ≤ n ∧ n ≤ 64 ∧ 0 ≤ K ∧ K ≤ 64)) : rgt P n K = false := by unfold rgt; rw [decide_eq_false h]; rfl

theorem rgt_yes {P : Nat → Nat → Bool} {n : Nat} {K : Int} (h : 1 ≤ n ∧ n ≤ 64 ∧ 0 ≤ K ∧ K ≤ 64) : rgt P n K = !emp P n := by unfold rgt; rw [decide_eq_true h]; rfl

set_option maxHeartbeats 1000000 in
theorem right_any (P : Nat → Nat → Bool) (n cap : Nat) (ao : Option Addr) (K : Int) (w : World) (hl : Lf w ao n P) :
    Calls Tryz.prog 45 #[.agg #[.slice ao n cap, .int .i64 K]] w fun e w' => e = .returned (.bool (rgt P n K)) ∧ Below w.heap.size w w' := by
  obtain ⟨w1, b1⟩ := lbox w (.slice ao n cap) (.int .i64 K)
  have E1 : Hid _ := b1.eq
  have B1 : Hid (Below w.heap.size w w1) := b1.bel
  have c0 := b1.c0
  have c1 := b1.c1
  have cc : Hid _ := contains_none P n cap ao w1 (hl.grow b1.bel)
  have hn := hl.small
  clear b1 hl
  by_cases h : 1 ≤ n ∧ n ≤ 64 ∧ 0 ≤ K ∧ K ≤ 64
  · have HR : Hid _ := rgt_yes (P := P) h
    obtain ⟨h1, h2, h3, h4⟩ := h
    have q1 : ¬ (n : Int) < 1 := by omega
    have q2 : ¬ (64 : Int) < (n : Int) := by omega
    have q3 : ¬ K < 0 := by omega
    have q4 : ¬ 64 < K := by omega
    go_enter Tryz.func45, Tryz.ntmps45
    go_wp2_with (first | rw [← E1.out])
    refine Calls.mono (Hid.out cc) ?_; rintro e w2 ⟨rfl, b2⟩
    have B2 : Hid (Below w.heap.size w w2) := B1.out.trans (b2.mono B1.out.size)
    clear b2
    go_wp2_with fail
    go_ret
    exact ⟨by rw [HR.out]; rfl, B2.out⟩
  · have HR : Hid _ := rgt_no (P := P) h
    by_cases h1 : 1 ≤ n ∧ n ≤ 64
    · have q1 : ¬ (n : Int) < 1 := by omega
      have q2 : ¬ (64 : Int) < (n : Int) := by omega
      have q3 : K < 0 ∨ 64 < K := by omega
      clear h h1
      go_enter Tryz.func45, Tryz.ntmps45
      go_wp2_with (first | rw [← E1.out])
      all_goals
        go_ret
        exact ⟨by rw [HR.out]; rfl, B1.out⟩
    · have q1 : (n : Int) < 1 ∨ 64 < (n : Int) := by omega
      clear h h1
      go_enter Tryz.func45, Tryz.ntmps45
      go_wp2_with (first | rw [← E1.out])
      all_goals
        go_ret
        exact ⟨by rw [HR.out]; rfl, B1.out⟩

theorem single_sg (f : Nat → Bool) (w : World) (hT : TabB w) :
    Calls Tryz.prog 103 #[.agg #[.int .u64 ((wd (f) 0 : Nat) : Int), .int .u64 ((wd (f) 1 : Nat) : Int), .int .u64 ((wd (f) 2 : Nat) : Int), .int .u64 ((wd (f) 3 : Nat) : Int)]] w fun e w' => e = .returned (.tuple #[.int .u8 ((bt f : Nat) : Int), .bool (sg f)]) ∧ Below w.heap.size w w' := by
  refine (single_any f w hT).mono ?_
  rintro e w' ⟨⟨b, t, hs, _, rfl⟩, hb⟩
  obtain ⟨rfl, rfl⟩ := sgl_eq hs
  exact ⟨rfl, hb⟩

end Cls

end Go.Proofs.YtbnnobeahliffaaGreatDoor

namespace Go.Proofs.YtbnnobeahliffaaGreatDoor
open Go.RowKit
namespace Cls

set_option maxHeartbeats 1000000 in
theorem refRight_any (P : Nat → Nat → Bool) (n cap : Nat) (ao : Option Addr) (K : Int) (w : World) (hl : Lf w ao n P) :
    Calls Tryz.prog 74 #[.agg #[.slice ao n cap, .int .i64 K]] w fun e w' => e = .returned (.bool (rgt P n K)) ∧ Below w.heap.size w w' := by
  obtain ⟨w1, b1⟩ := lbox w (.slice ao n cap) (.int .i64 K)
  have E1 : Hid _ := b1.eq
  have B1 : Hid (Below w.heap.size w w1) := b1.bel
  have hc := b1.c0
  have hd := b1.c1
  have s1 : w.heap.size < w1.heap.size := by have := b1.size; omega
  have HL : Hid (Lf w1 ao n P) := hl.grow b1.bel
  have hn := hl.small
  clear b1 hl
  by_cases h : 1 ≤ n ∧ n ≤ 64 ∧ 0 ≤ K ∧ K ≤ 64
  · have HR : Hid _ := rgt_yes (P := P) h
    obtain ⟨h1, h2, h3, h4⟩ := h
    have q1 : ¬ (n : Int) < 1 := by omega
    have q2 : ¬ (64 : Int) < (n : Int) := by omega
    have q3 : ¬ K < 0 := by omega
    have q4 : ¬ 64 < K := by omega
    have HC : Hid (w1.cell? ⟨w.heap.size, 0, none⟩ = some (.slice ao n cap) ∧ w1.cell? ⟨w.heap.size, 1, none⟩ = some (.int .i64 K)) := ⟨hc, hd⟩
    go_enter Tryz.func74, Tryz.ntmps74
    go_wp2_with (first | rw [← E1.out])
    clear hc hd E1
    go_loopw [3] (fun vk wr => Below w1.heap.size w1 wr ∧ ∃ k : Nat, k ≤ n ∧ vk = .int .i64 k ∧ ∀ t, t < k → sm (P t) (fun _ => false) = false) (fun vk _ => n - (intOf vk).toNat)
    case atStart => exact ⟨Below.refl _ _, 0, Nat.zero_le _, rfl, fun t ht => by omega⟩
    case round =>
      obtain ⟨hbel, k, hk, rfl, hno⟩ := hrel
      have HB : Hid _ := hbel
      have HNO : Hid _ := hno
      have HLr : Hid (Lf wr ao n P) := HL.out.grow hbel
      have hc := (two_below HC.out hbel s1).1
      clear hbel hno
      by_cases hkn : k < n
      · obtain ⟨b, o, rfl, hb, hC⟩ := HLr.out.lies (by omega)
        obtain ⟨c0, c1, c2, c3⟩ := hC.four hkn
        have hkI : (k : Int) < (n : Int) := by omega
        have cc : Hid _ := refSize_any (P k) wr
        have hle := cb_le256 (P k) 256
        have HE : Hid _ := em_size (P k)
        clear hC
        by_cases he : cb (P k) 0 256 = 0
        · have HS : Hid (emp P n = true) := any_range (q := fun t => sm (P t) (fun _ => false)) hkn (by show sm (P k) (fun _ => false) = true; rw [HE.out, he]; rfl)
          rw [he] at cc
          go_wp2_with fail
          refine Calls.mono (Hid.out cc) ?_; rintro e w2 ⟨rfl, b2⟩
          have HB2 : Hid (Below w1.heap.size w1 w2) := HB.out.trans (b2.mono HB.out.size)
          have B2 : Hid (Below w.heap.size w w2) := B1.out.trans (HB2.out.mono B1.out.size)
          clear b2
          go_wp2_with fail
          go_ret
          exact ⟨by rw [HR.out, HS.out]; rfl, B2.out⟩
        · have hne : ¬ ((cb (P k) 0 256 : Nat) : Int) = 0 := by omega
          have hnb : (((cb (P k) 0 256 : Nat) : Int) == 0) = false := by simp; omega
          have HS : Hid (∀ t, t < k + 1 → sm (P t) (fun _ => false) = false) := fun t ht => by
            by_cases e : t = k
            · subst e; rw [HE.out]; simp; omega
            · exact HNO.out t (by omega)
          go_wp2_with fail
          refine Calls.mono (Hid.out cc) ?_; rintro e w2 ⟨rfl, b2⟩
          have HB2 : Hid (Below w1.heap.size w1 w2) := HB.out.trans (b2.mono HB.out.size)
          clear b2
          go_wp2_with fail
          go_roundw
          case rel => exact ⟨HB2.out, k + 1, by omega, by go_num, HS.out⟩
          case measure => simp [intOf]; omega
      · obtain rfl : k = n := by omega
        have B2 : Hid (Below w.heap.size w wr) := B1.out.trans (HB.out.mono B1.out.size)
        have HY : Hid (emp P k = false) := any_range_no HNO.out
        go_wp2_with fail
        go_ret
        exact ⟨by rw [HR.out, HY.out]; rfl, B2.out⟩
  · have HR : Hid _ := rgt_no (P := P) h
    by_cases h1 : 1 ≤ n ∧ n ≤ 64
    · have q1 : ¬ (n : Int) < 1 := by omega
      have q2 : ¬ (64 : Int) < (n : Int) := by omega
      by_cases q3 : K < 0
      · clear h h1
        go_enter Tryz.func74, Tryz.ntmps74
        go_wp2_with (first | rw [← E1.out])
        go_ret
        exact ⟨by rw [HR.out]; rfl, B1.out⟩
      · have q4 : 64 < K := by omega
        clear h h1
        go_enter Tryz.func74, Tryz.ntmps74
        go_wp2_with (first | rw [← E1.out])
        go_ret
        exact ⟨by rw [HR.out]; rfl, B1.out⟩
    · by_cases q1 : (n : Int) < 1
      · clear h h1
        go_enter Tryz.func74, Tryz.ntmps74
        go_wp2_with (first | rw [← E1.out])
        go_ret
        exact ⟨by rw [HR.out]; rfl, B1.out⟩
      · have q2 : (64 : Int) < (n : Int) := by omega
        clear h h1
        go_enter Tryz.func74, Tryz.ntmps74
        go_wp2_with (first | rw [← E1.out])
        go_ret
        exact ⟨by rw [HR.out]; rfl, B1.out⟩

theorem sg_size (f : Nat → Bool) : sg f = (cb f 0 256 == 1) := rfl

end Cls

end Go.Proofs.YtbnnobeahliffaaGreatDoor

namespace Go.Proofs.YtbnnobeahliffaaGreatDoor
open Go.RowKit
namespace Cls

/-- Are two rows the same? -/
def eqr (P : Nat → Nat → Bool) (n : Nat) (Q : Nat → Nat → Bool) (m : Nat) : Bool := decide (n = m) && (List.range n).all fun t => sm (P t) (Q t)

theorem eqr_len {P Q : Nat → Nat → Bool} {n m : Nat} (h : ¬ n = m) : eqr P n Q m = false := by unfold eqr; rw [decide_eq_false h]; rfl

theorem eqr_yes {P Q : Nat → Nat → Bool} {n : Nat} (h : ∀ t, t < n → sm (P t) (Q t) = true) : eqr P n Q n = true := by unfold eqr; rw [decide_eq_true rfl, all_range h]; rfl

theorem eqr_no {P Q : Nat → Nat → Bool} {n t : Nat} (ht : t < n) (h : sm (P t) (Q t) = false) : eqr P n Q n = false := by unfold eqr; rw [all_range_no ht h]; simp

theorem eqr_refl (P : Nat → Nat → Bool) (n : Nat) : eqr P n P n = true := eqr_yes (fun t _ => sm_refl (P t))

theorem eqr_comm (P Q : Nat → Nat → Bool) (n m : Nat) : eqr P n Q m = eqr Q m P n := by
  by_cases h : n = m
  · subst h
    unfold eqr
    congr 1
    congr 1
    funext t
    exact sm_comm _ _
  · rw [eqr_len h, eqr_len (fun e => h e.symm)]

set_option maxHeartbeats 1000000 in
theorem equal_any (P Q : Nat → Nat → Bool) (n m cap dap : Nat) (ao bo : Option Addr) (w : World) (hl : Lf w ao n P) (hm : Lf w bo m Q) :
    Calls Tryz.prog 71 #[.slice ao n cap, .slice bo m dap] w fun e w' => e = .returned (.bool (eqr P n Q m)) ∧ Below w.heap.size w w' := by
  have HL : Hid _ := hl
  have HM : Hid _ := hm
  have hn := hl.small
  have hn' := hm.small
  clear hl hm
  by_cases he : n = m
  · subst he
    go_enter Tryz.func71, Tryz.ntmps71
    go_wp2_with fail
    go_loopw [13] (fun vk wr => Below w.heap.size w wr ∧ ∃ k : Nat, k ≤ n ∧ vk = .int .i64 k ∧ ∀ t, t < k → sm (P t) (Q t) = true) (fun vk _ => n - (intOf vk).toNat)
    case atStart => exact ⟨Below.refl _ _, 0, Nat.zero_le _, rfl, fun t ht => by omega⟩
    case round =>
      obtain ⟨hbel, k, hk, rfl, hall⟩ := hrel
      have HB : Hid _ := hbel
      have HA : Hid _ := hall
      have HLr : Hid (Lf wr ao n P) := HL.out.grow hbel
      have HMr : Hid (Lf wr bo n Q) := HM.out.grow hbel
      clear hbel hall
      by_cases hkn : k < n
      · obtain ⟨b, o, rfl, hb, hC⟩ := HLr.out.lies (by omega)
        obtain ⟨b', o', rfl, hb', hD⟩ := HMr.out.lies (by omega)
        obtain ⟨c0, c1, c2, c3⟩ := hC.four hkn
        obtain ⟨d0, d1, d2, d3⟩ := hD.four hkn
        have hkI : (k : Int) < (n : Int) := by omega
        clear hC hD
        go_wp2_with fail
        go_quiet (fail)
        have HB3 : Hid (Below w.heap.size w (wr.drewN nq)) := below_drewN HB.out nq
        cases hs : sm (P k) (Q k) with
        | true =>
          have HS : Hid (∀ t, t < k + 1 → sm (P t) (Q t) = true) := fun t ht => by
            by_cases e : t = k
            · subst e; exact hs
            · exact HA.out t (by omega)
          try simp only [hs]
          go_wp2_with fail
          go_roundw
          case rel => exact ⟨HB3.out, k + 1, by omega, by go_num, HS.out⟩
          case measure => simp [intOf]; omega
        | false =>
          have HS : Hid (eqr P n Q n = false) := eqr_no hkn hs
          try simp only [hs]
          go_wp2_with fail
          go_ret
          exact ⟨by rw [HS.out]; rfl, HB3.out⟩
      · obtain rfl : k = n := by omega
        have HY : Hid (eqr P k Q k = true) := eqr_yes HA.out
        go_wp2_with fail
        go_ret
        exact ⟨by rw [HY.out]; rfl, HB.out⟩
  · have HR : Hid _ := eqr_len (P := P) (Q := Q) he
    have h1 : ¬ (n : Int) = (m : Int) := by omega
    go_enter Tryz.func71, Tryz.ntmps71
    go_wp2_with fail
    go_ret
    exact ⟨by rw [HR.out]; rfl, Below.refl _ _⟩

set_option maxHeartbeats 1000000 in
theorem classes_any (P Q : Nat → Nat → Bool) (n m cap dap : Nat) (ao bo : Option Addr) (w : World) (hl : Lf w ao n P) (hm : Lf w bo m Q) :
    Calls Tryz.prog 43 #[.slice ao n cap, .slice bo m dap] w fun e w' => e = .returned (.bool (eqr P n Q m)) ∧ Below w.heap.size w w' := by
  have HL : Hid _ := hl
  have HM : Hid _ := hm
  have hn := hl.small
  have hn' := hm.small
  clear hl hm
  by_cases he : n = m
  · subst he
    go_enter Tryz.func43, Tryz.ntmps43
    go_wp2_with fail
    go_loopw [5] (fun vk wr => Below w.heap.size w wr ∧ ∃ k : Nat, k ≤ n ∧ vk = .int .i64 k ∧ ∀ t, t < k → sm (P t) (Q t) = true) (fun vk _ => n - (intOf vk).toNat)
    case atStart => exact ⟨Below.refl _ _, 0, Nat.zero_le _, rfl, fun t ht => by omega⟩
    case round =>
      obtain ⟨hbel, k, hk, rfl, hall⟩ := hrel
      have HB : Hid _ := hbel
      have HA : Hid _ := hall
      have HLr : Hid (Lf wr ao n P) := HL.out.grow hbel
      have HMr : Hid (Lf wr bo n Q) := HM.out.grow hbel
      clear hbel hall
      by_cases hkn : k < n
      · obtain ⟨b, o, rfl, hb, hC⟩ := HLr.out.lies (by omega)
        obtain ⟨b', o', rfl, hb', hD⟩ := HMr.out.lies (by omega)
        obtain ⟨c0, c1, c2, c3⟩ := hC.four hkn
        obtain ⟨d0, d1, d2, d3⟩ := hD.four hkn
        have hkI : (k : Int) < (n : Int) := by omega
        clear hC hD
        go_wp2_with fail
        go_quiet (fail)
        have HB3 : Hid (Below w.heap.size w (wr.drewN nq)) := below_drewN HB.out nq
        cases hs : sm (P k) (Q k) with
        | true =>
          have HS : Hid (∀ t, t < k + 1 → sm (P t) (Q t) = true) := fun t ht => by
            by_cases e : t = k
            · subst e; exact hs
            · exact HA.out t (by omega)
          try simp only [hs]
          go_wp2_with fail
          go_roundw
          case rel => exact ⟨HB3.out, k + 1, by omega, by go_num, HS.out⟩
          case measure => simp [intOf]; omega
        | false =>
          have HS : Hid (eqr P n Q n = false) := eqr_no hkn hs
          try simp only [hs]
          go_wp2_with fail
          go_ret
          exact ⟨by rw [HS.out]; rfl, HB3.out⟩
      · obtain rfl : k = n := by omega
        have HY : Hid (eqr P k Q k = true) := eqr_yes HA.out
        go_wp2_with fail
        go_ret
        exact ⟨by rw [HY.out]; rfl, HB.out⟩
  · have HR : Hid _ := eqr_len (P := P) (Q := Q) he
    have h1 : ¬ (n : Int) = (m : Int) := by omega
    go_enter Tryz.func43, Tryz.ntmps43
    go_wp2_with fail
    go_ret
    exact ⟨by rw [HR.out]; rfl, Below.refl _ _⟩

/-- Are two leaves the same? -/
def sml (P : Nat → Nat → Bool) (n : Nat) (K : Int) (Q : Nat → Nat → Bool) (m : Nat) (J : Int) : Bool := decide (K = J) && eqr P n Q m

theorem sml_comm (P Q : Nat → Nat → Bool) (n m : Nat) (K J : Int) : sml P n K Q m J = sml Q m J P n K := by
  unfold sml
  rw [eqr_comm, show decide (K = J) = decide (J = K) from decide_eq_decide.2 ⟨Eq.symm, Eq.symm⟩]

theorem sml_refl (P : Nat → Nat → Bool) (n : Nat) (K : Int) : sml P n K P n K = true := by unfold sml; rw [eqr_refl, decide_eq_true rfl]; rfl

set_option maxHeartbeats 1000000 in
theorem same_any (P Q : Nat → Nat → Bool) (n m cap dap : Nat) (ao bo : Option Addr) (K J : Int) (w : World) (hl : Lf w ao n P) (hm : Lf w bo m Q) :
    Calls Tryz.prog 46 #[.agg #[.slice ao n cap, .int .i64 K], .agg #[.slice bo m dap, .int .i64 J]] w fun e w' => e = .returned (.bool (sml P n K Q m J)) ∧ Below w.heap.size w w' := by
  obtain ⟨w1, b1⟩ := lbox w (.slice ao n cap) (.int .i64 K)
  obtain ⟨w2, b2⟩ := lbox w1 (.slice bo m dap) (.int .i64 J)
  have E1 : Hid _ := b1.eq
  have E2 : Hid _ := b2.eq
  have s1 : w.heap.size < w1.heap.size := by have := b1.size; omega
  have B2 : Hid (Below w.heap.size w w2) := b1.bel.trans (b2.bel.mono b1.bel.size)
  obtain ⟨c0, c1⟩ := two_below ⟨b1.c0, b1.c1⟩ b2.bel s1
  have d0 := b2.c0
  have d1 := b2.c1
  have cc : Hid _ := equal_any P Q n m cap dap ao bo w2 ((hl.grow b1.bel).grow b2.bel) ((hm.grow b1.bel).grow b2.bel)
  have HS : Hid (w.heap.size + 1 = w1.heap.size) := b1.size.symm
  clear b1 b2 hl hm
  generalize w1.heap.size = g at *
  by_cases hK : K = J
  · subst hK
    have HQ : Hid (sml P n K Q m K = eqr P n Q m) := by show _ = _; unfold sml; rw [decide_eq_true rfl]; rfl
    go_enter Tryz.func46, Tryz.ntmps46
    go_wp2_with (first | rw [← E1.out, ← E2.out, HS.out])
    refine Calls.mono (Hid.out cc) ?_; rintro e w3 ⟨rfl, b3⟩
    have B3 : Hid (Below w.heap.size w w3) := B2.out.trans (b3.mono B2.out.size)
    clear b3
    go_wp2_with fail
    go_ret
    exact ⟨by rw [HQ.out]; rfl, B3.out⟩
  · have HQ : Hid (sml P n K Q m J = false) := by show _ = _; unfold sml; rw [decide_eq_false hK]; rfl
    have hb : (K == J) = false := by simpa using hK
    go_enter Tryz.func46, Tryz.ntmps46
    go_wp2_with (first | rw [← E1.out, ← E2.out, HS.out])
    go_ret
    exact ⟨by rw [HQ.out]; rfl, B2.out⟩

set_option maxHeartbeats 1000000 in
theorem refSame_any (P Q : Nat → Nat → Bool) (n m cap dap : Nat) (ao bo : Option Addr) (K J : Int) (w : World) (hl : Lf w ao n P) (hm : Lf w bo m Q) :
    Calls Tryz.prog 24 #[.agg #[.slice ao n cap, .int .i64 K], .agg #[.slice bo m dap, .int .i64 J]] w fun e w' => e = .returned (.bool (sml P n K Q m J)) ∧ Below w.heap.size w w' := by
  obtain ⟨w1, b1⟩ := lbox w (.slice ao n cap) (.int .i64 K)
  obtain ⟨w2, b2⟩ := lbox w1 (.slice bo m dap) (.int .i64 J)
  have E1 : Hid _ := b1.eq
  have E2 : Hid _ := b2.eq
  have s1 : w.heap.size < w1.heap.size := by have := b1.size; omega
  have B2 : Hid (Below w.heap.size w w2) := b1.bel.trans (b2.bel.mono b1.bel.size)
  obtain ⟨c0, c1⟩ := two_below ⟨b1.c0, b1.c1⟩ b2.bel s1
  have d0 := b2.c0
  have d1 := b2.c1
  have cc : Hid _ := classes_any P Q n m cap dap ao bo w2 ((hl.grow b1.bel).grow b2.bel) ((hm.grow b1.bel).grow b2.bel)
  have HS : Hid (w.heap.size + 1 = w1.heap.size) := b1.size.symm
  clear b1 b2 hl hm
  generalize w1.heap.size = g at *
  by_cases hK : K = J
  · subst hK
    have HQ : Hid (sml P n K Q m K = eqr P n Q m) := by show _ = _; unfold sml; rw [decide_eq_true rfl]; rfl
    go_enter Tryz.func24, Tryz.ntmps24
    go_wp2_with (first | rw [← E1.out, ← E2.out, HS.out])
    refine Calls.mono (Hid.out cc) ?_; rintro e w3 ⟨rfl, b3⟩
    have B3 : Hid (Below w.heap.size w w3) := B2.out.trans (b3.mono B2.out.size)
    clear b3
    go_wp2_with fail
    go_ret
    exact ⟨by rw [HQ.out]; rfl, B3.out⟩
  · have HQ : Hid (sml P n K Q m J = false) := by show _ = _; unfold sml; rw [decide_eq_false hK]; rfl
    have hb : (K == J) = false := by simpa using hK
    go_enter Tryz.func24, Tryz.ntmps24
    go_wp2_with (first | rw [← E1.out, ← E2.out, HS.out])
    go_ret
    exact ⟨by rw [HQ.out]; rfl, B2.out⟩

end Cls

end Go.Proofs.YtbnnobeahliffaaGreatDoor

namespace Go.Proofs.YtbnnobeahliffaaGreatDoor
open Go.RowKit
namespace Cls

def pls (L : List Nat) : List Value := L.map fun t => .int .i64 ((t : Nat) : Int)

def OwnI (w : World) (B : Nat) (v : Value) (L : List Nat) : Prop := w.ownsRow B 3 1 v L.length (pls L)

/-- A slice of places. -/
def Is (w : World) (ao : Option Addr) (L : List Nat) : Prop := 1 ≤ L.length → ∃ b, ao = some ⟨b, 0, none⟩ ∧ b < w.heap.size ∧ ∀ t, (h : t < L.length) → w.cell? ⟨b, t, none⟩ = some (.int .i64 ((L[t] : Nat) : Int))

theorem Is.grow {w w' : World} {ao : Option Addr} {L : List Nat} (h : Is w ao L) (hb : Below w.heap.size w w') : Is w' ao L := fun hn => by
  obtain ⟨b, e, hlt, hc⟩ := h hn
  exact ⟨b, e, Nat.lt_of_lt_of_le hlt hb.size, fun t ht => (hb.cell (p := ⟨b, t, none⟩) hlt).trans (hc t ht)⟩

theorem ownI_is {w : World} {B : Nat} {v : Value} {L : List Nat} (h : OwnI w B v L) : ∃ ao c, v = .slice ao L.length c ∧ Is w ao L := by
  by_cases hn : 1 ≤ L.length
  · obtain ⟨g, cap, hv, _, _, hlt, hc, _⟩ := owns_cells h hn
    refine ⟨_, cap, hv, fun _ => ⟨g, rfl, hlt, fun t ht => ?_⟩⟩
    rw [hc t (by omega)]
    simp [pls, ht]
  · obtain ⟨_, ⟨e, e2⟩ | ⟨g', cap, cur, hv, _⟩⟩ := h
    · exact ⟨none, 0, by rw [e, e2], fun h => absurd h hn⟩
    · exact ⟨_, _, hv, fun h => absurd h hn⟩

theorem infoI : ∃ i, Tryz.prog.info? 3 = some i ∧ i.zero = some (.int .i64 0) ∧ i.size = 1 ∧ i.bytes = 8 := by
  have h : (Tryz.prog.info? 3).map (fun i => (i.zero, i.size, i.bytes)) = some (some (.int .i64 0), 1, 8) := by kernel_rfl
  obtain ⟨i, hi, hz⟩ := Option.map_eq_some_iff.1 h
  simp only [Prod.mk.injEq] at hz
  exact ⟨i, hi, hz.1, hz.2.1, hz.2.2⟩

/-- Are two rows of places the same? -/
def eqi (L M : List Nat) : Bool := decide (L = M)

end Cls

end Go.Proofs.YtbnnobeahliffaaGreatDoor

namespace Go.Proofs.YtbnnobeahliffaaGreatDoor
open Go.RowKit
namespace Cls

/-- The cells of a row of classes. -/
def cls (L : List (Nat → Bool)) : List Value := L.flatMap fun f => [.int .u64 ((wd f 0 : Nat) : Int), .int .u64 ((wd f 1 : Nat) : Int), .int .u64 ((wd f 2 : Nat) : Int), .int .u64 ((wd f 3 : Nat) : Int)]

theorem cls_len (L : List (Nat → Bool)) : (cls L).length = L.length * 4 := by
  induction L with
  | nil => rfl
  | cons p L ih => simp [cls] at ih ⊢; omega

theorem cls_append (L M : List (Nat → Bool)) : cls (L ++ M) = cls L ++ cls M := by simp [cls]

/-- Its element t. -/
def at' (L : List (Nat → Bool)) (t : Nat) : Nat → Bool := L.getD t (fun _ => false)

theorem at_get {L : List (Nat → Bool)} {t : Nat} (h : t < L.length) : at' L t = L[t] := by unfold at'; rw [List.getD_eq_getElem?_getD, List.getElem?_eq_getElem h]; rfl

theorem four_at (W : Nat → Nat) (k : Nat) (hk : k < 4) : ([.int .u64 ((W 0 : Nat) : Int), .int .u64 ((W 1 : Nat) : Int), .int .u64 ((W 2 : Nat) : Int), .int .u64 ((W 3 : Nat) : Int)] : List Value)[k]? = some (.int .u64 ((W k : Nat) : Int)) := by
  match k, hk with
  | 0, _ => rfl
  | 1, _ => rfl
  | 2, _ => rfl
  | 3, _ => rfl

theorem cls_at (L : List (Nat → Bool)) (t k : Nat) (h : t < L.length) (hk : k < 4) : (cls L)[t * 4 + k]? = some (.int .u64 ((wd (at' L t) k : Nat) : Int)) := by
  have e : L = L.take t ++ ([L[t]] ++ L.drop (t + 1)) := by
    rw [← List.append_assoc, ← List.take_succ_eq_append_getElem h, List.take_append_drop]
  have hl : (cls (L.take t)).length = t * 4 := by rw [cls_len, List.length_take]; omega
  have e2 : cls L = cls (L.take t) ++ (cls [L[t]] ++ cls (L.drop (t + 1))) := by
    conv => lhs; rw [e]
    rw [cls_append, cls_append]
  rw [e2, List.getElem?_append_right (by omega), hl, show t * 4 + k - t * 4 = k by omega, List.getElem?_append_left (by rw [cls_len]; simp; omega), at_get h]
  exact four_at (wd L[t]) k hk

def OwnC (w : World) (B : Nat) (v : Value) (L : List (Nat → Bool)) : Prop := w.ownsRow B 67 4 v L.length (cls L)

theorem ownC_nil (w : World) (B : Nat) : OwnC w B (.slice none 0 0) [] := World.ownsRow_nil _ _ _ _

theorem ownC_lf {w : World} {B : Nat} {v : Value} {L : List (Nat → Bool)} (h : OwnC w B v L) (hs : L.length ≤ 4398046511104) : ∃ ao c, v = .slice ao L.length c ∧ Lf w ao L.length (at' L) := by
  by_cases hn : 1 ≤ L.length
  · obtain ⟨g, cap, hv, _, _, hlt, hc, _⟩ := owns_cells h hn
    refine ⟨_, cap, hv, hs, fun _ => ⟨g, 0, rfl, hlt, fun t ht k hk => ?_⟩⟩
    rw [Nat.zero_add, hc _ (by omega)]
    exact cls_at L t k ht hk
  · obtain ⟨_, ⟨e, e2⟩ | ⟨g', cap, cur, hv, _⟩⟩ := h
    · exact ⟨none, 0, by rw [e, e2], hs, fun h => absurd h hn⟩
    · exact ⟨_, _, hv, hs, fun h => absurd h hn⟩

theorem add_none (b o j : Nat) : (⟨b, o, none⟩ : Addr).add j = ⟨b, o + j, none⟩ := by unfold Addr.add; split <;> simp_all

/-- A new row of one class. -/
theorem new4 (w : World) (f : Nat → Bool) (j : Nat) (u : Value) (h : (cls [f])[j]? = some u) : (w.alloc (.cells #[.int .u64 ((wd (f) 0 : Nat) : Int), .int .u64 ((wd (f) 1 : Nat) : Int), .int .u64 ((wd (f) 2 : Nat) : Int), .int .u64 ((wd (f) 3 : Nat) : Int)] 67)).cell? ((⟨w.heap.size, 0, none⟩ : Addr).add j) = some u := by
  have hb : (w.alloc (.cells #[.int .u64 ((wd (f) 0 : Nat) : Int), .int .u64 ((wd (f) 1 : Nat) : Int), .int .u64 ((wd (f) 2 : Nat) : Int), .int .u64 ((wd (f) 3 : Nat) : Int)] 67)).heap[w.heap.size]? = some (.cells #[.int .u64 ((wd (f) 0 : Nat) : Int), .int .u64 ((wd (f) 1 : Nat) : Int), .int .u64 ((wd (f) 2 : Nat) : Int), .int .u64 ((wd (f) 3 : Nat) : Int)] 67) := by show (w.heap.push _)[w.heap.size]? = _; simp
  rw [add_none]
  unfold World.cell?
  rw [hb, Nat.zero_add]
  have e : cls [f] = [.int .u64 ((wd f 0 : Nat) : Int), .int .u64 ((wd f 1 : Nat) : Int), .int .u64 ((wd f 2 : Nat) : Int), .int .u64 ((wd f 3 : Nat) : Int)] := rfl
  rw [e] at h
  generalize wd f = W at *
  match j, h with
  | 0, h => exact h
  | 1, h => exact h
  | 2, h => exact h
  | 3, h => exact h

theorem plain4 (f : Nat → Bool) : ∀ u ∈ cls [f], u.oneCell' = true := by
  intro u hu
  simp [cls] at hu
  rcases hu with rfl | rfl | rfl | rfl <;> rfl

theorem infoC : ∃ i, Tryz.prog.info? 67 = some i ∧ i.zero = some (.agg #[.int .u64 0, .int .u64 0, .int .u64 0, .int .u64 0]) ∧ i.size = 4 ∧ i.bytes = 32 := by
  have h : (Tryz.prog.info? 67).map (fun i => (i.zero, i.size, i.bytes)) = some (some (.agg #[.int .u64 0, .int .u64 0, .int .u64 0, .int .u64 0]), 4, 32) := by kernel_rfl
  obtain ⟨i, hi, hz⟩ := Option.map_eq_some_iff.1 h
  simp only [Prod.mk.injEq] at hz
  exact ⟨i, hi, hz.1, hz.2.1, hz.2.2⟩

end Cls

end Go.Proofs.YtbnnobeahliffaaGreatDoor

namespace Go.Proofs.YtbnnobeahliffaaGreatDoor
open Go.RowKit
namespace Cls

/-- Is c among the first k of L? -/
def mt (L : List (Nat → Bool)) (c : Nat → Bool) (k : Nat) : Bool := (L.take k).any fun g => sm g c

theorem mt_zero (L : List (Nat → Bool)) (c : Nat → Bool) : mt L c 0 = false := by simp [mt]

theorem mt_succ (L : List (Nat → Bool)) (c : Nat → Bool) (k : Nat) (h : k < L.length) : mt L c (k + 1) = (mt L c k || sm (at' L k) c) := by
  unfold mt
  rw [List.take_succ_eq_append_getElem h, List.any_append, at_get h]
  simp

theorem mt_end (L : List (Nat → Bool)) (c : Nat → Bool) : mt L c L.length = L.any fun g => sm g c := by simp [mt]

theorem kd_no {P : Nat → Nat → Bool} {n : Nat} (h : (fr (P n) || mt (kd P n) (P n) (kd P n).length) = true) : kd P (n + 1) = kd P n := by
  rw [kd, mt_end] at *
  rw [if_pos h]

theorem kd_new {P : Nat → Nat → Bool} {n : Nat} (h : (fr (P n) || mt (kd P n) (P n) (kd P n).length) = false) : kd P (n + 1) = kd P n ++ [P n] := by
  rw [kd, mt_end] at *
  rw [if_neg (by rw [h]; simp)]

end Cls

end Go.Proofs.YtbnnobeahliffaaGreatDoor

namespace Go.Proofs.YtbnnobeahliffaaGreatDoor
open Go.RowKit Go.Maps
namespace Cls

theorem laidOutM : laidOutB Tryz.prog = true := by kernel_rfl

theorem rowK : (67 : TypeId) < Tryz.prog.types.size := of_decide_eq_true (by kernel_rfl)

theorem wideK : (match Tryz.prog.underlying 67 with | some (.array _ _) | some (.struct _) => true | _ => false) = true := by rw [Tryz.underlying67]

set_option maxRecDepth 100000 in
theorem lawK : Keyed Tryz.prog 67 := Keyed.of_law (deep_law_laid laidOutM (m := 2) (by omega) rowK (by kernel_rfl) wideK)

theorem zeroB (w : World) : (zeroValue 4).run Tryz.prog w = .ok (.bool false) w := by kernel_rfl

theorem keyTypeK : Tryz.prog.keyType 67 = true := by kernel_rfl

theorem cellsU : Tryz.prog.cellsOf 65 = 1 := by kernel_rfl

theorem cellsK : Tryz.prog.cellsOf 67 = 4 := by kernel_rfl

set_option maxRecDepth 100000 in
theorem typesK : ∃ d, Tryz.prog.types.size = d + 1 := ⟨_, (Nat.succ_pred_eq_of_pos (Nat.lt_of_le_of_lt (Nat.zero_le _) rowK)).symm⟩

set_option maxRecDepth 100000 in
theorem key_of (x y z u : Int) (h0 : (Lit.int .u64 x).wf = true) (h1 : (Lit.int .u64 y).wf = true) (h2 : (Lit.int .u64 z).wf = true) (h3 : (Lit.int .u64 u).wf = true) :
    ∃ l, keyOf Tryz.prog 67 (.agg #[.int .u64 x, .int .u64 y, .int .u64 z, .int .u64 u]) = some l := by
  obtain ⟨d, hd⟩ := typesK
  have hf : (Value.agg #[.int .u64 x, .int .u64 y, .int .u64 z, .int .u64 u]).formed Tryz.prog 67 = true := by simp [Value.formed, Tryz.underlying67, cellsK]
  have hr : List.range 4 = [0, 1, 2, 3] := rfl
  unfold keyOf
  rw [Tryz.underlying67]
  simp [keyTypeK, hf, hd, Program.keyLits, Tryz.underlying67, Tryz.underlying65, cellsU, cellsK, Value.cells, hr, h0, h1, h2, h3]

theorem wf_wd (f : Nat → Bool) (k : Nat) : (Lit.int .u64 ((wd f k : Nat) : Int)).wf = true := by
  have := wd_lt f k
  exact WalkArith.wf_u64 ⟨by omega, by omega⟩

/-- What a class reads as, as a key. -/
def kl (q : Value → Option Lit) (f : Nat → Bool) : Lit := (q (.agg #[.int .u64 ((wd (f) 0 : Nat) : Int), .int .u64 ((wd (f) 1 : Nat) : Int), .int .u64 ((wd (f) 2 : Nat) : Int), .int .u64 ((wd (f) 3 : Nat) : Int)])).getD (.bool false)

set_option maxRecDepth 100000 in
theorem kl_of (f : Nat → Bool) : keyOf Tryz.prog 67 (.agg #[.int .u64 ((wd (f) 0 : Nat) : Int), .int .u64 ((wd (f) 1 : Nat) : Int), .int .u64 ((wd (f) 2 : Nat) : Int), .int .u64 ((wd (f) 3 : Nat) : Int)]) = some (kl (keyOf Tryz.prog 67) f) := by
  obtain ⟨l, hl⟩ := key_of _ _ _ _ (wf_wd f 0) (wf_wd f 1) (wf_wd f 2) (wf_wd f 3)
  unfold kl
  rw [hl]
  rfl

set_option maxRecDepth 100000 in
theorem kl_key (f : Nat → Bool) : WideAt.IsKeyLit (kl (keyOf Tryz.prog 67) f) := lawK.key (kl_of f)

set_option maxRecDepth 100000 in
theorem kl_same (f g : Nat → Bool) : (kl (keyOf Tryz.prog 67) f).sameKey (kl (keyOf Tryz.prog 67) g) = sm f g := by
  rw [Bool.eq_iff_iff]
  constructor
  · intro h
    have e := WideAt.sameKey_eq h
    have h1 := kl_of f
    rw [e] at h1
    have h2 := lawK.inj h1 (kl_of g)
    injection h2 with h2
    have h3 := congrArg Array.toList h2
    simp at h3
    obtain ⟨e0, e1, e2, e3⟩ := h3
    unfold sm
    rw [Int.ofNat.inj e0, Int.ofNat.inj e1, Int.ofNat.inj e2, Int.ofNat.inj e3]
    simp
  · intro h
    have hw := (sm_words f g).1 h
    have e : kl (keyOf Tryz.prog 67) f = kl (keyOf Tryz.prog 67) g := by unfold kl; rw [hw 0 (by omega), hw 1 (by omega), hw 2 (by omega), hw 3 (by omega)]
    rw [e]
    exact WideAt.sameKey_self (kl_key g)

set_option maxRecDepth 100000 in
theorem atKey_fold (u z : DataW Unit) (k : Lit) : ∀ (acc : List Lit) (m : DataW Unit), IsMap m → (∀ x ∈ acc, WideAt.IsKeyLit x) → (acc.foldl (fun m x => m.put x u) m).atKey k z = if acc.any (fun x => x.sameKey k) then u else m.atKey k z
  | [], m, _, _ => by simp
  | x :: r, m, hm, hk => by
    rw [List.foldl_cons, atKey_fold u z k r (m.put x u) (hm.put x u) (fun y hy => hk y (List.mem_cons_of_mem _ hy)), List.any_cons]
    by_cases h1 : r.any (fun x => x.sameKey k) = true
    · rw [h1]; simp
    · have h1' : r.any (fun x => x.sameKey k) = false := by simpa using h1
      rw [h1']
      by_cases e : k = x
      · subst e
        rw [atKey_put_same hm (hk k (by simp)), WideAt.sameKey_self (hk k (by simp))]
        simp
      · rw [atKey_put_other e, sameKey_ne (fun e' => e e'.symm)]
        simp

/-- The map of those that were met. -/
def met (q : Value → Option Lit) (L : List (Nat → Bool)) : DataW Unit := setOf (.lit (.bool true)) (L.map (kl q))

theorem met_nil : met (keyOf Tryz.prog 67) [] = .map [] := rfl

set_option maxRecDepth 100000 in
theorem met_snoc (L : List (Nat → Bool)) (f : Nat → Bool) : met (keyOf Tryz.prog 67) (L ++ [f]) = (met (keyOf Tryz.prog 67) L).put (kl (keyOf Tryz.prog 67) f) (.lit (.bool true)) := by unfold met; rw [List.map_append]; exact setOf_snoc _ _ _

set_option maxRecDepth 100000 in
theorem met_at (L : List (Nat → Bool)) (f : Nat → Bool) : (met (keyOf Tryz.prog 67) L).atKey (kl (keyOf Tryz.prog 67) f) (.lit (.bool false)) = .lit (.bool (L.any fun g => sm g f)) := by
  unfold met setOf
  rw [atKey_fold _ _ _ _ _ isMap_empty (fun x hx => by obtain ⟨g, _, rfl⟩ := List.mem_map.1 hx; exact kl_key g), List.any_map]
  have e : ((fun x : Lit => x.sameKey (kl (keyOf Tryz.prog 67) f)) ∘ kl (keyOf Tryz.prog 67)) = fun g => sm g f := by funext g; exact kl_same g f
  rw [e]
  cases L.any fun g => sm g f <;> rfl

end Cls

end Go.Proofs.YtbnnobeahliffaaGreatDoor

namespace Go.Proofs.YtbnnobeahliffaaGreatDoor
open Go.RowKit Go.Maps
namespace Cls

theorem map_below {w w' : World} {P : Program} {k : TypeId} {R : Value → Option (DataW Unit × List MemPlace)} {b n C : Nat} {D : DataW Unit} (h : w.ownsMap P k R b n D) (hb : Below C w w') (hC : b < C) : w'.ownsMap P k R b n D := by
  obtain ⟨es, clock, h1, h2⟩ := h
  exact ⟨es, clock, (hb.block b hC).trans h1, h2⟩

theorem owns_grown {w w' : World} {B n size g : Nat} {e : TypeId} {v : Value} {xs : List Value} (h : w.ownsRow B e size v n xs) (hg : w.grownBy w' (some g)) (hB : g < B) : w'.ownsRow B e size v n xs := by
  obtain ⟨hl, h | ⟨g', cap, cur, hv, hg', hbk, hc, hm, hs, ht⟩⟩ := h
  · exact ⟨hl, Or.inl h⟩
  · have hlt : g' < w.heap.size := by
      rcases Nat.lt_or_ge g' w.heap.size with h0 | h0
      · exact h0
      · rw [Array.getElem?_eq_none h0] at hbk; cases hbk
    exact ⟨hl, Or.inr ⟨g', cap, cur, hv, hg', by rw [hg.block g' hlt (by simp; omega)]; exact hbk, hc, hm, hs, ht⟩⟩

theorem owns_mono {w : World} {B C n size : Nat} {e : TypeId} {v : Value} {xs : List Value} (h : w.ownsRow B e size v n xs) (hC : C ≤ B) : w.ownsRow C e size v n xs := by
  obtain ⟨hl, h | ⟨g, cap, cur, hv, hg, r⟩⟩ := h
  · exact ⟨hl, Or.inl h⟩
  · exact ⟨hl, Or.inr ⟨g, cap, cur, hv, by omega, r⟩⟩

theorem owns_apart {w : World} {B g n size : Nat} {e : TypeId} {v : Value} {xs : List Value} (h : w.ownsRow B e size v n xs) (hB : g < B) : some g ≠ v.ownBlock := by
  obtain ⟨_, ⟨e, _⟩ | ⟨g', cap, cur, hv, hg', _⟩⟩ := h
  · subst e; simp [Value.ownBlock]
  · subst hv; simp [Value.ownBlock]; omega

theorem fam_grown {w w' : World} {b n g : Nat} {G : Nat → Int} (h : Fam w b 0 n G) (hg : w.grownBy w' (some g)) (hb : b < w.heap.size) (hne : g ≠ b) : Fam w' b 0 n G := fun t ht => by
  have h := h t ht
  have hblk := hg.block b hb (by simp; omega)
  unfold World.cell? at h ⊢
  rw [hblk]
  exact h

theorem kd_fr {P : Nat → Nat → Bool} {n : Nat} (h : fr (P n) = true) : kd P (n + 1) = kd P n := kd_no (by rw [h]; rfl)

theorem kd_in {P : Nat → Nat → Bool} {n : Nat} (h : ((kd P n).any fun g => sm g (P n)) = true) : kd P (n + 1) = kd P n := kd_no (by rw [mt_end, h]; simp)

theorem kd_out {P : Nat → Nat → Bool} {n : Nat} (hf : fr (P n) = false) (h : ((kd P n).any fun g => sm g (P n)) = false) : kd P (n + 1) = kd P n ++ [P n] := kd_new (by rw [mt_end, h, hf]; rfl)

end Cls

end Go.Proofs.YtbnnobeahliffaaGreatDoor

namespace Go.Proofs.YtbnnobeahliffaaGreatDoor
open Go.RowKit
namespace Cls

/-- The letters, as bytes. -/
def lts (P : Nat → Nat → Bool) (n : Nat) : List UInt8 := (List.range n).map fun t => UInt8.ofNat (bt (P t))

def ltx (P : Nat → Nat → Bool) (n : Nat) : ByteArray := if als P n = true then ⟨(lts P n).toArray⟩ else ⟨#[]⟩

theorem lts_len (P : Nat → Nat → Bool) (n : Nat) : (lts P n).length = n := by simp [lts]

theorem lts_succ (P : Nat → Nat → Bool) (n : Nat) : lts P (n + 1) = lts P n ++ [UInt8.ofNat (bt (P n))] := by simp [lts, List.range_succ]

theorem lts_at (P : Nat → Nat → Bool) (n j : Nat) (h : j < (lts P n).length) : ((lts P n)[j]).toNat = bt (P j) := by
  have := bt_lt (P j)
  simp [lts]
  omega

theorem als_yes {P : Nat → Nat → Bool} {n : Nat} (h : ∀ t, t < n → sg (P t) = true) : als P n = true := all_range h

theorem als_no {P : Nat → Nat → Bool} {n t : Nat} (ht : t < n) (h : sg (P t) = false) : als P n = false := all_range_no (q := fun t => sg (P t)) ht h

theorem ltx_yes {P : Nat → Nat → Bool} {n : Nat} (h : als P n = true) : ltx P n = ⟨(lts P n).toArray⟩ := if_pos h

theorem ltx_no {P : Nat → Nat → Bool} {n : Nat} (h : als P n = false) : ltx P n = ⟨#[]⟩ := if_neg (by rw [h]; simp)

/-- A row of bytes while it is being filled. -/
def bys (P : Nat → Nat → Bool) (k t : Nat) : Value := .int .u8 (if t < k then ((bt (P t) : Nat) : Int) else 0)

def lbs (P : Nat → Nat → Bool) (k : Nat) : List Value := (List.range k).map fun t => .int .u8 ((bt (P t) : Nat) : Int)

theorem lbs_succ (P : Nat → Nat → Bool) (k : Nat) : lbs P (k + 1) = lbs P k ++ [.int .u8 ((bt (P k) : Nat) : Int)] := by unfold lbs; rw [List.range_succ, List.map_append]; rfl

/-- A row of letters that is appended to. -/
def OwnL (w : World) (B : Nat) (v : Value) (k : Nat) (P : Nat → Nat → Bool) : Prop := w.ownsRow B 5 1 v k (lbs P k)

theorem infoL : ∃ i, Tryz.prog.info? 5 = some i ∧ i.zero = some (.int .u8 0) ∧ i.size = 1 ∧ i.bytes = 1 := by
  have h : (Tryz.prog.info? 5).map (fun i => (i.zero, i.size, i.bytes)) = some (some (.int .u8 0), 1, 1) := by kernel_rfl
  obtain ⟨i, hi, hz⟩ := Option.map_eq_some_iff.1 h
  simp only [Prod.mk.injEq] at hz
  exact ⟨i, hi, hz.1, hz.2.1, hz.2.2⟩

theorem ownL_text {w : World} {B k : Nat} {v : Value} {P : Nat → Nat → Bool} (h : OwnL w B v k P) : (convert 135 9 v).run Tryz.prog w = .ok (.string ⟨(lts P k).toArray⟩) w := by
  by_cases hk : 1 ≤ k
  · obtain ⟨g, cap, hv, _, _, _, hc, _⟩ := owns_cells h hk
    subst hv
    have h := run_convert_bytes_back (P := Tryz.prog) w 135 9 5 ⟨g, 0, none⟩ cap (lts P k) Tryz.underlying135 Tryz.underlying5 Tryz.underlying9 (fun j hj => by
      have hjk : j < k := by rw [lts_len] at hj; exact hj
      rw [lts_at, add_none, Nat.zero_add, hc j (by omega)]
      simp [lbs, hjk])
    rw [lts_len] at h
    exact h
  · obtain rfl : k = 0 := by omega
    obtain ⟨_, ⟨e, e2⟩ | ⟨g', cap, cur, hv, _⟩⟩ := h
    · rw [e]
      rw [run_convert_bytes_string w 135 9 5 none 0 0 Tryz.underlying135 Tryz.underlying5 Tryz.underlying9]
      rfl
    · rw [hv]
      exact run_convert_bytes_back (P := Tryz.prog) w 135 9 5 ⟨g', 0, none⟩ cap [] Tryz.underlying135 Tryz.underlying5 Tryz.underlying9 (fun j hj => by cases hj)

theorem refSingle_sg (f : Nat → Bool) (w : World) :
    Calls Tryz.prog 87 #[.agg #[.int .u64 ((wd (f) 0 : Nat) : Int), .int .u64 ((wd (f) 1 : Nat) : Int), .int .u64 ((wd (f) 2 : Nat) : Int), .int .u64 ((wd (f) 3 : Nat) : Int)]] w fun e w' => e = .returned (.tuple #[.int .u8 ((bt f : Nat) : Int), .bool (sg f)]) ∧ Below w.heap.size w w' := by
  refine (refSingle_any f w).mono ?_
  rintro e w' ⟨⟨b, t, hs, _, rfl⟩, hb⟩
  obtain ⟨rfl, rfl⟩ := sgl_eq hs
  exact ⟨rfl, hb⟩

end Cls

end Go.Proofs.YtbnnobeahliffaaGreatDoor

namespace Go.Proofs.YtbnnobeahliffaaGreatDoor
open Go.RowKit
namespace Cls

/-- The set of byte t of a text. -/
def tx (s : ByteArray) (t : Nat) : Nat → Bool := inS (s.extract t (t + 1)) (s.extract t (t + 1)).size

def txk (s : ByteArray) (k t : Nat) : Nat → Bool := if t < k then tx s t else fun _ => false

/-- n classes that 'make' lays. -/
theorem cl_made (w : World) (n : Nat) : Cl (w.alloc (.cells (madeCells #[.int .u64 0, .int .u64 0, .int .u64 0, .int .u64 0] (n * 4)) 67)) w.heap.size 0 n (fun _ _ => false) := by
  intro t ht k hk
  have hb : (w.alloc (.cells (madeCells #[.int .u64 0, .int .u64 0, .int .u64 0, .int .u64 0] (n * 4)) 67)).heap[w.heap.size]? = some (.cells (madeCells #[.int .u64 0, .int .u64 0, .int .u64 0, .int .u64 0] (n * 4)) 67) := by show (w.heap.push _)[w.heap.size]? = _; simp
  unfold World.cell?
  rw [hb, Nat.zero_add, wd_none]
  show (madeCells _ _)[t * 4 + k]? = _
  have hlt : t * 4 + k < n * 4 := by omega
  have hm : (t * 4 + k) % 4 = k := by omega
  unfold madeCells
  rw [Array.getElem?_map]
  simp [hlt, hm]
  match k, hk with
  | 0, _ => rfl
  | 1, _ => rfl
  | 2, _ => rfl
  | 3, _ => rfl

theorem wrt_made4 (w : World) (n : Nat) : Wrt (w.alloc (.cells (madeCells #[.int .u64 0, .int .u64 0, .int .u64 0, .int .u64 0] (n * 4)) 67)) w.heap.size 0 (n * 4) := by
  intro t _
  unfold World.frozen?
  rw [show (w.alloc (.cells (madeCells #[.int .u64 0, .int .u64 0, .int .u64 0, .int .u64 0] (n * 4)) 67)).heap[w.heap.size]? = some (.cells (madeCells #[.int .u64 0, .int .u64 0, .int .u64 0, .int .u64 0] (n * 4)) 67) by show (w.heap.push _)[w.heap.size]? = _; simp]
  simp

theorem make4 (n : Nat) (hn : n ≤ 4398046511104) (w : World) : (Instr.makeSlice 32 (.int .i64 (n : Int)) (.int .i64 (n : Int))).run Tryz.prog w = .ok (.slice (some ⟨w.heap.size, 0, none⟩) n n) (w.alloc (.cells (madeCells #[.int .u64 0, .int .u64 0, .int .u64 0, .int .u64 0] (n * 4)) 67)) := by
  obtain ⟨i0, hi, hz0, hz1, hz2⟩ := infoC
  have h := run_make (P := Tryz.prog) w 32 67 i0 _ Tryz.underlying32 hi hz0 .i64 .i64 n n (by omega) (Int.le_refl _) (by rw [hz2]; omega) (by omega)
  simp only [Int.toNat_natCast, hz1] at h
  exact h

/-- A leaf as a result: what stands in its variable. -/
theorem results_box2 {fn : Func} {p : Tmp} (h : fn.results = #[.cell p 34]) (tmps : Array Value) (v : World) (b : Nat) (x y : Value) (hp : tmps.getD p undef = .pointer (some ⟨b, 0, none⟩)) (c0 : v.cell? ⟨b, 0, none⟩ = some x) (c1 : v.cell? ⟨b, 1, none⟩ = some y) :
    (results fn tmps).run Tryz.prog v = .ok (.agg #[x, y]) v := by
  have hp' : tmps[p]?.getD undef = .pointer (some ⟨b, 0, none⟩) := by simpa using hp
  simp [results, h, hp', asAddr, go_sem, c0, c1]

/-- Class k of a row, written. -/
def put4 (v : World) (b k : Nat) (f : Nat → Bool) : World := (((v.setCell ⟨b, k * 4, none⟩ (.int .u64 (wd f 0 : Nat))).setCell ⟨b, k * 4 + 1, none⟩ (.int .u64 (wd f 1 : Nat))).setCell ⟨b, k * 4 + 2, none⟩ (.int .u64 (wd f 2 : Nat))).setCell ⟨b, k * 4 + 3, none⟩ (.int .u64 (wd f 3 : Nat))

theorem put4_wrote {v : World} {b k : Nat} (f : Nat → Bool) : Wrote (fun b' _ => b' = b) v (put4 v b k f) := ((((Wrote.refl (fun b' _ => b' = b) v).setCell rfl _).setCell rfl _).setCell rfl _).setCell rfl _

theorem put4_wrt {v : World} {b b' k n : Nat} (h : Wrt v b' 0 n) (f : Nat → Bool) : Wrt (put4 v b k f) b' 0 n := (((h.setCell _ _).setCell _ _).setCell _ _).setCell _ _

theorem put4_cl {v : World} {b k n : Nat} {P : Nat → Nat → Bool} (h : Cl v b 0 n P) (hk : k < n) (f : Nat → Bool) : Cl (put4 v b k f) b 0 n (fun t => if t = k then f else P t) := by
  intro t ht j hj
  show (put4 v b k f).cell? _ = some (.int .u64 ((wd (if t = k then f else P t) j : Nat) : Int))
  have hc := h t ht j hj
  unfold put4
  rw [Nat.zero_add] at hc ⊢
  by_cases e : t = k
  · subst e
    rw [if_pos rfl]
    have h0 := h t ht 0 (by omega)
    have h1 := h t ht 1 (by omega)
    have h2 := h t ht 2 (by omega)
    have h3 := h t ht 3 (by omega)
    rw [Nat.zero_add] at h0 h1 h2 h3
    generalize wd f = W at *
    match j, hj with
    | 0, _ => rw [cell_setCell_ne _ _ _ _ _ _ (Or.inr (by omega)), cell_setCell_ne _ _ _ _ _ _ (Or.inr (by omega)), cell_setCell_ne _ _ _ _ _ _ (Or.inr (by omega))]; exact World.cell?_setCell_same _ _ _ h0
    | 1, _ => rw [cell_setCell_ne _ _ _ _ _ _ (Or.inr (by omega)), cell_setCell_ne _ _ _ _ _ _ (Or.inr (by omega))]; exact World.cell?_setCell_same _ _ _ (by rw [cell_setCell_ne _ _ _ _ _ _ (Or.inr (by omega))]; exact h1)
    | 2, _ => rw [cell_setCell_ne _ _ _ _ _ _ (Or.inr (by omega))]; exact World.cell?_setCell_same _ _ _ (by rw [cell_setCell_ne _ _ _ _ _ _ (Or.inr (by omega)), cell_setCell_ne _ _ _ _ _ _ (Or.inr (by omega))]; exact h2)
    | 3, _ => exact World.cell?_setCell_same _ _ _ (by rw [cell_setCell_ne _ _ _ _ _ _ (Or.inr (by omega)), cell_setCell_ne _ _ _ _ _ _ (Or.inr (by omega)), cell_setCell_ne _ _ _ _ _ _ (Or.inr (by omega))]; exact h3)
  · rw [if_neg e, cell_setCell_ne _ _ _ _ _ _ (Or.inr (by omega)), cell_setCell_ne _ _ _ _ _ _ (Or.inr (by omega)), cell_setCell_ne _ _ _ _ _ _ (Or.inr (by omega)), cell_setCell_ne _ _ _ _ _ _ (Or.inr (by omega))]
    exact hc

theorem Cl.congr {w : World} {b o n : Nat} {P Q : Nat → Nat → Bool} (h : Cl w b o n P) (e : ∀ t, t < n → P t = Q t) : Cl w b o n Q := fun t ht k hk => by rw [← e t ht]; exact h t ht k hk

theorem txk_step (s : ByteArray) (k n : Nat) : ∀ t, t < n → (if t = k then tx s k else txk s k t) = txk s (k + 1) t := fun t _ => by
  unfold txk
  by_cases e : t = k
  · subst e; rw [if_pos rfl, if_pos (by omega)]
  · rw [if_neg e]
    by_cases e2 : t < k
    · rw [if_pos e2, if_pos (by omega)]
    · rw [if_neg e2, if_neg (by omega)]

/-- Two cells, written. -/
def put2 (v : World) (b : Nat) (x y : Value) : World := (v.setCell ⟨b, 0, none⟩ x).setCell ⟨b, 1, none⟩ y

theorem put2_cells {v : World} {b : Nat} {x y x0 y0 : Value} (c0 : v.cell? ⟨b, 0, none⟩ = some x0) (c1 : v.cell? ⟨b, 1, none⟩ = some y0) : (put2 v b x y).cell? ⟨b, 0, none⟩ = some x ∧ (put2 v b x y).cell? ⟨b, 1, none⟩ = some y := by
  unfold put2
  constructor
  · rw [cell_setCell_ne _ _ _ _ _ _ (Or.inr (by omega))]; exact World.cell?_setCell_same _ _ _ c0
  · exact World.cell?_setCell_same _ _ _ (by rw [cell_setCell_ne _ _ _ _ _ _ (Or.inr (by omega))]; exact c1)

theorem put2_wrote {v : World} {b : Nat} (x y : Value) : Wrote (fun b' _ => b' = b) v (put2 v b x y) := ((Wrote.refl (fun b' _ => b' = b) v).setCell rfl _).setCell rfl _

/-- The row of a text's classes: new, and its own. -/
structure Tn (w w' : World) (g : Nat) (s : ByteArray) : Prop where
  new : w.heap.size ≤ g
  lt : g < w'.heap.size
  cl : Cl w' g 0 s.size (tx s)
  wrt : Wrt w' g 0 (s.size * 4)

set_option maxHeartbeats 1000000 in
theorem text_core (s : ByteArray) (K : Int) (w : World) (hs : s.size ≤ 4398046511104) :
    Calls Tryz.prog 13 #[.string s, .int .i64 K] w fun e w' => (∃ g d, e = .returned (.agg #[.slice (some ⟨g, 0, none⟩) s.size d, .int .i64 K]) ∧ Tn w w' g s) ∧ Below w.heap.size w w' := by
  obtain ⟨w1, b1⟩ := lbox w (.slice none 0 0) (.int .i64 0)
  have hmk := make4 s.size hs
  have fv := cl_made w1 s.size
  have wv := wrt_made4 w1 s.size
  have bel : Below w1.heap.size w1 (w1.alloc (.cells (madeCells #[.int .u64 0, .int .u64 0, .int .u64 0, .int .u64 0] (s.size * 4)) 67)) := (Below.refl _ _).alloc (Nat.le_refl _) _
  have hsz : (w1.alloc (.cells (madeCells #[.int .u64 0, .int .u64 0, .int .u64 0, .int .u64 0] (s.size * 4)) 67)).heap.size = w1.heap.size + 1 := by show (w1.heap.push _).size = _; simp
  generalize Obj.cells (madeCells #[.int .u64 0, .int .u64 0, .int .u64 0, .int .u64 0] (s.size * 4)) 67 = ob at *
  obtain ⟨w2, e2⟩ : ∃ w2, w2 = w1.alloc ob := ⟨_, rfl⟩
  rw [← e2] at fv wv bel hsz
  have E1 : Hid _ := b1.eq
  have E2 : Hid _ := e2
  have s1 : w.heap.size < w1.heap.size := by have := b1.size; omega
  have s2 : w1.heap.size < w2.heap.size := by omega
  have HC : Hid (w2.cell? ⟨w.heap.size, 0, none⟩ = some (.slice none 0 0) ∧ w2.cell? ⟨w.heap.size, 1, none⟩ = some (.int .i64 0)) := two_below ⟨b1.c0, b1.c1⟩ bel s1
  have HC1 : Hid (w1.cell? ⟨w.heap.size, 0, none⟩ = some (.slice none 0 0) ∧ w1.cell? ⟨w.heap.size, 1, none⟩ = some (.int .i64 0)) := ⟨b1.c0, b1.c1⟩
  have HFz : Hid (Wrt w1 w.heap.size 0 2) := by
    intro t _
    rw [b1.eq]
    unfold World.frozen?
    rw [show (w.alloc (.cells #[.slice none 0 0, .int .i64 0] 34)).heap[w.heap.size]? = some (.cells #[.slice none 0 0, .int .i64 0] 34) by show (w.heap.push _)[w.heap.size]? = _; simp]
    simp
  have B1 : Hid (Below w.heap.size w w1) := b1.bel
  have B12 : Hid (Below w1.heap.size w1 w2) := bel
  have FV : Hid (Cl w2 w1.heap.size 0 s.size (txk s 0)) := fv.congr (fun t _ => by unfold txk; rw [if_neg (by omega)])
  have WV : Hid (Wrt w2 w1.heap.size 0 (s.size * 4)) := wv
  clear b1 fv wv bel hsz e2
  go_enter Tryz.func13, Tryz.ntmps13
  go_wp2_with (first | rw [← E1.out] | rw [← E2.out])
  clear E1 E2 hmk
  go_loopw [12] (fun vk wr => Below w1.heap.size w1 wr ∧ w1.heap.size < wr.heap.size ∧ ∃ k : Nat, k ≤ s.size ∧ vk = .int .i64 k ∧ Cl wr w1.heap.size 0 s.size (txk s k) ∧ Wrt wr w1.heap.size 0 (s.size * 4)) (fun vk _ => s.size - (intOf vk).toNat)
  case atStart => exact ⟨B12.out, s2, 0, Nat.zero_le _, rfl, FV.out, WV.out⟩
  case round =>
    obtain ⟨hbel, hsr, k, hk, rfl, hF, hW⟩ := hrel
    have HB : Hid _ := hbel
    have HF : Hid (Cl wr w1.heap.size 0 s.size (txk s k)) := hF
    have HW : Hid (Wrt wr w1.heap.size 0 (s.size * 4)) := hW
    clear hbel hF hW
    by_cases hkn : k < s.size
    · have hkI : (k : Int) < (s.size : Int) := by omega
      have hsx : (s.extract k (k + 1)).size < 9223372036854775808 := by rw [ByteArray.size_extract]; omega
      have cc : Hid (Calls Tryz.prog 30 #[.string (s.extract k (k + 1))] wr fun e w' => e = .returned (.agg #[.int .u64 ((wd (tx s k) 0 : Nat) : Int), .int .u64 ((wd (tx s k) 1 : Nat) : Int), .int .u64 ((wd (tx s k) 2 : Nat) : Int), .int .u64 ((wd (tx s k) 3 : Nat) : Int)]) ∧ Below wr.heap.size wr w') := of_any (s.extract k (k + 1)) hsx wr
      clear hsx
      go_wp2_with fail
      refine Calls.mono (Hid.out cc) ?_; rintro e w3 ⟨rfl, b3⟩
      have HB3 : Hid (Below w1.heap.size w1 w3) := HB.out.trans (b3.mono HB.out.size)
      have F3 : Hid (Cl w3 w1.heap.size 0 s.size (txk s k)) := HF.out.below b3 hsr
      have W3 : Hid (Wrt w3 w1.heap.size 0 (s.size * 4)) := Wrt.below HW.out b3 hsr
      have s3 : w1.heap.size < w3.heap.size := Nat.lt_of_lt_of_le hsr b3.size
      obtain ⟨a0, a1, a2, a3⟩ := F3.out.four hkn
      rw [Nat.zero_add] at a0 a1 a2 a3
      have f0 := Wrt.zero W3.out (k * 4) (by omega)
      have f1 := Wrt.zero W3.out (k * 4 + 1) (by omega)
      have f2 := Wrt.zero W3.out (k * 4 + 2) (by omega)
      have f3 := Wrt.zero W3.out (k * 4 + 3) (by omega)
      have HB4 : Hid (Below w1.heap.size w1 (put4 w3 w1.heap.size k (tx s k))) := HB3.out.trans ((put4_wrote _).below (fun b' o e => by omega))
      have F4 : Hid (Cl (put4 w3 w1.heap.size k (tx s k)) w1.heap.size 0 s.size (txk s (k + 1))) := (put4_cl F3.out hkn _).congr (txk_step s k s.size)
      have W4 : Hid (Wrt (put4 w3 w1.heap.size k (tx s k)) w1.heap.size 0 (s.size * 4)) := put4_wrt W3.out _
      have S4 : Hid (w1.heap.size < (put4 w3 w1.heap.size k (tx s k)).heap.size) := by show _ < _; rw [(put4_wrote (v := w3) (b := w1.heap.size) (k := k) (tx s k)).size]; exact s3
      clear b3 HF HW F3 W3
      go_wp2_with fail
      go_roundw
      case rel => exact ⟨HB4.out, S4.out, k + 1, by omega, by go_num, F4.out, W4.out⟩
      case measure => simp [intOf]; omega
    · obtain rfl : k = s.size := by omega
      have HLf : Hid (Cl wr w1.heap.size 0 s.size (tx s)) := HF.out.congr (fun t ht => by unfold txk; rw [if_pos ht])
      obtain ⟨z0, z1⟩ := two_below HC1.out HB.out s1
      have FZ : Hid (Wrt wr w.heap.size 0 2) := Wrt.below HFz.out HB.out s1
      have f0 := Wrt.zero FZ.out 0 (by omega)
      have f1 := Wrt.zero FZ.out 1 (by omega)
      have B2 : Hid (Below w.heap.size w wr) := B1.out.trans (HB.out.mono B1.out.size)
      have hq := put2_cells (x := .slice (some ⟨w1.heap.size, 0, none⟩) s.size s.size) (y := .int .i64 K) z0 z1
      have HQ : Hid _ := hq
      have HWr : Hid _ := put2_wrote (v := wr) (b := w.heap.size) (.slice (some ⟨w1.heap.size, 0, none⟩) s.size s.size) (.int .i64 K)
      clear hq
      go_wp2_with fail
      refine bodyPost_ret (results_box2 rfl _ (put2 wr w.heap.size (.slice (some ⟨w1.heap.size, 0, none⟩) s.size s.size) (.int .i64 K)) w.heap.size _ _ rfl HQ.out.1 HQ.out.2) rfl ?_
      refine ⟨⟨_, _, rfl, by omega, ?_, fun t ht j hj => ?_, HWr.out.wrt HW.out⟩, B2.out.trans (HWr.out.below (fun b' o e => by omega))⟩
      · exact Nat.lt_of_lt_of_eq hsr HWr.out.size.symm
      · exact (HWr.out.cell _ _ (by omega)).trans (HLf.out t ht j hj)

theorem text_any (s : ByteArray) (K : Int) (w : World) (hs : s.size ≤ 4398046511104) :
    Calls Tryz.prog 13 #[.string s, .int .i64 K] w fun e w' => (∃ bo d, e = .returned (.agg #[.slice bo s.size d, .int .i64 K]) ∧ Lf w' bo s.size (tx s)) ∧ Below w.heap.size w w' :=
  (text_core s K w hs).mono (by rintro e w' ⟨⟨g, d, rfl, h⟩, hb⟩; exact ⟨⟨_, d, rfl, hs, fun _ => ⟨g, 0, rfl, h.lt, h.cl⟩⟩, hb⟩)

end Cls

end Go.Proofs.YtbnnobeahliffaaGreatDoor

namespace Go.Proofs.YtbnnobeahliffaaGreatDoor

theorem run_enter {P : Program} {f : Nat} {fn : Func} (hf : P.funcs[f]? = some fn) (hn : (fn.name == "runtime.NumGoroutine") = false) (hb : fn.body.isNone = false) (args : Array Value) (w : World) : (callFunc f args).run P w = .ok (.enter f args) w := by
  have hn' : ¬ fn.name = "runtime.NumGoroutine" := by simpa using hn
  simp [callFunc, hf, hn']
  intro h
  rw [h] at hb
  cases hb

theorem step_call {P : Program} {ops : Array Oper} {o : Oper} {a : Act} {w : World} {K : Act → World → Prop} {Q : Exit → Act → World → Prop} {E : Prop}
    (hgd : o.guard = none) (f : Nat) (args : Array Operand) (ts : Array TypeId) (ho : o.op = .call { callee := .value (.func f), args := args, argTypes := ts }) (vs : Array Value) (hv : args.map a.eval = vs)
    (hen : ∀ w, (callFunc f vs).run P w = .ok (.enter f vs) w)
    (v : Value) (R : World → Prop) (hc : Calls P f vs w fun e w' => e = .returned v ∧ R w') (h : ∀ w', R w' → K (a.put o.dst v) w') :
    if Region.wanted o (yielded ops a.tmps) = true then Oper.wp P o a w K Q else E := by
  have hw : Region.wanted o (yielded ops a.tmps) = true := by simp [Region.wanted, hgd]
  rw [if_pos hw]
  have hf : a.eval (.func f) = .func (.func f) #[] #[] := by simp [Act.eval]
  unfold Oper.wp
  simp [execOp, ho, resolve, invoke, hv, hf, Deferred.ofValue, hen, Oper.upon]
  refine Calls.mono hc ?_
  rintro e w' ⟨rfl, r⟩
  exact h w' r

end Go.Proofs.YtbnnobeahliffaaGreatDoor

namespace Go.Proofs.YtbnnobeahliffaaGreatDoor
open Go.RowKit
namespace Cls

def txl (s : ByteArray) (k : Nat) : List (Nat → Bool) := (List.range k).map (tx s)

theorem txl_len (s : ByteArray) (k : Nat) : (txl s k).length = k := by simp [txl]

theorem txl_succ (s : ByteArray) (k : Nat) : txl s (k + 1) = txl s k ++ [tx s k] := by unfold txl; rw [List.range_succ, List.map_append]; rfl

theorem txl_at (s : ByteArray) (k t : Nat) (h : t < k) : at' (txl s k) t = tx s t := by
  rw [at_get (by rw [txl_len]; exact h)]
  simp [txl]

/-- A leaf in a box, whose row is appended to. -/
structure Tq (w1 w2 wr : World) (v : Value) (K : Int) (s : ByteArray) (k : Nat) : Prop where
  bel : Below w1.heap.size w1 wr
  lt : w1.heap.size < w2.heap.size
  size : w2.heap.size ≤ wr.heap.size
  c : wr.cell? ⟨w1.heap.size, 0, none⟩ = some v ∧ wr.cell? ⟨w1.heap.size, 1, none⟩ = some (.int .i64 K)
  f : Wrt wr w1.heap.size 0 2
  own : wr.ownsRow w2.heap.size 67 4 v k (cls (txl s k))

theorem Tq.grow {w1 w2 wr w' : World} {v : Value} {K : Int} {s : ByteArray} {k : Nat} (h : Tq w1 w2 wr v K s k) (b : Below wr.heap.size wr w') : Tq w1 w2 w' v K s k :=
  have hlt : w1.heap.size < wr.heap.size := Nat.lt_of_lt_of_le h.lt h.size
  ⟨h.bel.trans (b.mono h.bel.size), h.lt, Nat.le_trans h.size b.size, two_below h.c b hlt, h.f.below b hlt, owns_below h.own b (Nat.le_refl _)⟩

theorem Tq.step {w1 w2 w3 w4 : World} {v : Value} {K : Int} {s : ByteArray} {k g cap : Nat} {ob : Obj} (h : Tq w1 w2 w3 v K s k)
    (ho : w4.ownsRow w2.heap.size 67 4 (.slice (some ⟨g, 0, none⟩) (k + 1) cap) (k + 1) (cls (txl s k) ++ cls [tx s k])) (hg : (w3.alloc ob).grownBy w4 v.ownBlock) :
    w4.cell? ⟨w1.heap.size, 0, none⟩ = some v ∧ w4.frozen? ⟨w1.heap.size, 0, none⟩ = false ∧ Tq w1 w2 (w4.setCell ⟨w1.heap.size, 0, none⟩ (.slice (some ⟨g, 0, none⟩) (k + 1) cap)) (.slice (some ⟨g, 0, none⟩) (k + 1) cap) K s (k + 1) := by
  have hlt : w1.heap.size < w3.heap.size := Nat.lt_of_lt_of_le h.lt h.size
  have hlt' : w1.heap.size < (w3.alloc ob).heap.size := by show _ < (w3.heap.push _).size; simp; omega
  have hne : some w1.heap.size ≠ v.ownBlock := owns_apart h.own h.lt
  have bl : Below w3.heap.size w3 (w3.alloc ob) := (Below.refl _ _).alloc (Nat.le_refl _) _
  have h0 : w4.cell? ⟨w1.heap.size, 0, none⟩ = some v := (hg.cell_far ⟨w1.heap.size, 0, none⟩ hlt' hne).trans (two_below h.c bl hlt).1
  have h1 : w4.cell? ⟨w1.heap.size, 1, none⟩ = some (.int .i64 K) := (hg.cell_far ⟨w1.heap.size, 1, none⟩ hlt' hne).trans (two_below h.c bl hlt).2
  have hf : Wrt w4 w1.heap.size 0 2 := fun t ht => (hg.frozen_far ⟨w1.heap.size, 0 + t, none⟩ hlt' hne).trans (h.f.below bl hlt t ht)
  have hb4 : Below w1.heap.size w1 w4 := grow_below h.bel.size h.bel (owns_mono h.own (Nat.le_of_lt h.lt)) hg
  have hs4 : w2.heap.size ≤ w4.heap.size := Nat.le_trans h.size (Nat.le_trans (by show w3.heap.size ≤ (w3.heap.push _).size; simp) hg.size)
  have hw : Wrote (fun b' _ => b' = w1.heap.size) w4 (w4.setCell ⟨w1.heap.size, 0, none⟩ (.slice (some ⟨g, 0, none⟩) (k + 1) cap)) := Wrote.setCell (S := fun b' _ => b' = w1.heap.size) (Wrote.refl _ _) rfl _
  refine ⟨h0, hf.zero 0 (by omega), hb4.trans (hw.below (fun b' o e => by omega)), h.lt, by rw [hw.size]; exact hs4, ⟨World.cell?_setCell_same _ _ _ h0, by rw [cell_setCell_ne _ _ _ _ _ _ (Or.inr (by omega))]; exact h1⟩, hf.setCell _ _, ?_⟩
  rw [txl_succ, cls_append]
  obtain ⟨hl, he | ⟨g', cap', cur, hv, hg', hbk, hc, hm, hs, ht⟩⟩ := ho
  · exact absurd he.1 (by simp)
  · exact ⟨hl, Or.inr ⟨g', cap', cur, hv, hg', by rw [hw.block g' (fun o e => by have := h.lt; omega)]; exact hbk, hc, hm, hs, ht⟩⟩

end Cls

end Go.Proofs.YtbnnobeahliffaaGreatDoor
