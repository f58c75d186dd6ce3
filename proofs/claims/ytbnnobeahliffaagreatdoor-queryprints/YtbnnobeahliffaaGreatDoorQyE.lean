/- Rows of leaves in memory. (Of QyRow, by its likeness.) Contract of beagleref14.Leaves. Contract of slices.Clone of a row of classes. Contract of query.Leaves. Contracts of query.Longest, sameNode, Same, wrong and of the library's functions that they are handed to. QueryParses, by the contracts of what it calls. QueryAgain, by the contracts of what it calls. QueryBrackets, by the contracts of what it calls. Contract of beaglelaw14.alive. Contract of beaglelaw14.alive. The program's contracts, as the laws' walks by contracts take them. -/
import Derived.Test.YtbnnobeahliffaaGreatDoorQyA
import Derived.Maps.AppendAt
import Derived.Test.YtbnnobeahliffaaGreatDoorNvPar
import Derived.Deep.DeepCutAuto
import Derived.Lib.LazyBuf
import Derived.Deep.RegionHeld3
import Derived.Test.YtbnnobeahliffaaGreatDoorLfA
import Derived.Deep.AppendLies
import Derived.Deep.RegionLaw
import Derived.Test.YtbnnobeahliffaaGreatDoorQyB
import Derived.Test.YtbnnobeahliffaaGreatDoorQyD

set_option linter.unusedVariables false
namespace Go.Proofs.YtbnnobeahliffaaGreatDoor
open Go.RowKit
namespace Cls

/-- A leaf: its elements, and how many may be missed. -/
structure Wi where
  p : List (Nat → Bool)
  k : Int

def Qn.wi (x : Qn) : Wi := ⟨x.p, x.k⟩

/-- A leaf in memory: where its classes lie. -/
structure Wv where
  i : Wi
  ao : Option Addr
  cap : Nat

def Wv.two (x : Wv) : List Value := [.slice x.ao x.i.p.length x.cap, .int .i64 x.i.k]

def Wv.val (x : Wv) : Value := .agg #[.slice x.ao x.i.p.length x.cap, .int .i64 x.i.k]

def Wv.ok (w : World) (x : Wv) : Prop := Lf w x.ao x.i.p.length (at' x.i.p)

theorem Wv.ok.grow {w w' : World} {x : Wv} (h : x.ok w) (b : Below w.heap.size w w') : x.ok w' := Lf.grow h b

def wkc (L : List Wv) : List Value := L.flatMap Wv.two

theorem wkc_len (L : List Wv) : (wkc L).length = L.length * 2 := by
  induction L with
  | nil => rfl
  | cons p L ih => simp [wkc, Wv.two] at ih ⊢; omega

theorem wkc_append (L M : List Wv) : wkc (L ++ M) = wkc L ++ wkc M := by simp [wkc]

theorem wkc_at (L : List Wv) (t k : Nat) (h : t < L.length) (hk : k < 2) : (wkc L)[t * 2 + k]? = (L[t]).two[k]? := by
  have e : L = L.take t ++ ([L[t]] ++ L.drop (t + 1)) := by
    rw [← List.append_assoc, ← List.take_succ_eq_append_getElem h, List.take_append_drop]
  have hl : (wkc (L.take t)).length = t * 2 := by rw [wkc_len, List.length_take]; omega
  have e2 : wkc L = wkc (L.take t) ++ (wkc [L[t]] ++ wkc (L.drop (t + 1))) := by
    conv => lhs; rw [e]
    rw [wkc_append, wkc_append]
  rw [e2, List.getElem?_append_right (by omega), hl, show t * 2 + k - t * 2 = k by omega, List.getElem?_append_left (by rw [wkc_len]; simp; omega)]
  simp [wkc]

/-- A leaf at a place of a block. -/
structure W2c (w : World) (b o : Nat) (x : Wv) : Prop where
  c0 : w.cell? ⟨b, o, none⟩ = some (.slice x.ao x.i.p.length x.cap)
  c1 : w.cell? ⟨b, o + 1, none⟩ = some (.int .i64 x.i.k)

theorem W2c.grow {w w' : World} {b o : Nat} {x : Wv} (h : W2c w b o x) (hb : Below w.heap.size w w') : W2c w' b o x := by
  have hi : b < w.heap.size := World.block_lt_of_cell? w _ h.c0
  have c := fun (t : Nat) => hb.cell (p := ⟨b, t, none⟩) hi
  exact ⟨(c _).trans h.c0, (c _).trans h.c1⟩

/-- A slice of leafs. -/
structure WR (w : World) (so : Option Addr) (L : List Wv) : Prop where
  small : L.length ≤ 4398046511104
  lies : 1 ≤ L.length → ∃ b o, so = some ⟨b, o, none⟩ ∧ b < w.heap.size ∧ ∀ t, (h : t < L.length) → W2c w b (o + t * 2) L[t]
  ok : ∀ x ∈ L, x.ok w

theorem WR.grow {w w' : World} {so : Option Addr} {L : List Wv} (h : WR w so L) (hb : Below w.heap.size w w') : WR w' so L :=
  ⟨h.small, fun hn => by
    obtain ⟨b, o, e, hlt, hc⟩ := h.lies hn
    exact ⟨b, o, e, Nat.lt_of_lt_of_le hlt hb.size, fun t ht => (hc t ht).grow hb⟩, fun x hx => (h.ok x hx).grow hb⟩

/-- A row of leafs of one's own; what they lead to lies apart from it. -/
structure OW (w : World) (B : Nat) (T : TypeId) (v : Value) (L : List Wv) : Prop where
  own : w.ownsRow B T 2 v L.length (wkc L)
  ok : ∀ x ∈ L, x.ok w
  apart : ∀ x ∈ L, 1 ≤ x.i.p.length → ∀ b o, x.ao = some ⟨b, o, none⟩ → some b ≠ v.ownBlock

theorem ow_nil (w : World) (B : Nat) (T : TypeId) : OW w B T (.slice none 0 0) [] := ⟨World.ownsRow_nil _ _ _ _, fun _ h => by simp at h, fun _ h => by simp at h⟩

theorem OW.grow {w w' : World} {B : Nat} {T : TypeId} {v : Value} {L : List Wv} (h : OW w B T v L) (hb : Below w.heap.size w w') : OW w' B T v L :=
  ⟨owns_below h.own hb (Nat.le_refl _), fun x hx => (h.ok x hx).grow hb, h.apart⟩

theorem OW.tr {w : World} {B : Nat} {T : TypeId} {v : Value} {L : List Wv} (h : OW w B T v L) (hs : L.length ≤ 4398046511104) : ∃ so c, v = .slice so L.length c ∧ WR w so L := by
  by_cases hn : 1 ≤ L.length
  · obtain ⟨g, cap, hv, _, _, hlt, hc, _⟩ := owns_cells h.own hn
    refine ⟨_, cap, hv, hs, fun _ => ⟨g, 0, rfl, hlt, fun t ht => ?_⟩, h.ok⟩
    have e : ∀ k, k < 2 → w.cell? ⟨g, 0 + t * 2 + k, none⟩ = (L[t]).two[k]? := fun k hk => by
      rw [hc _ (by omega), Nat.zero_add, wkc_at L t k ht hk]
    exact ⟨e 0 (by omega), e 1 (by omega)⟩
  · obtain ⟨_, ⟨e, e2⟩ | ⟨g', cap, cur, hv, _⟩⟩ := h.own
    · exact ⟨none, 0, by rw [e, e2], hs, fun h => absurd h hn, h.ok⟩
    · exact ⟨_, _, hv, hs, fun h => absurd h hn, h.ok⟩

theorem OW.lies {w : World} {B : Nat} {T : TypeId} {v : Value} {L : List Wv} (h : OW w B T v L) : ∀ g, v.ownBlock = some g → B ≤ g ∧ g < w.heap.size := by
  intro g hg
  obtain ⟨_, ⟨e, _⟩ | ⟨g', cap, cur, hv, hg', hbk, _⟩⟩ := h.own
  · subst e; simp [Value.ownBlock] at hg
  · subst hv
    simp [Value.ownBlock] at hg
    subst hg
    refine ⟨hg', ?_⟩
    rcases Nat.lt_or_ge g' w.heap.size with h0 | h0
    · exact h0
    · rw [Array.getElem?_eq_none h0] at hbk; cases hbk

/-- A leaf is appended. -/
theorem OW.step {w w' : World} {B : Nat} {T : TypeId} {v v' : Value} {L : List Wv} {x : Wv} {ob : Obj} (h : OW w B T v L) (hx : x.ok w) (hxa : 1 ≤ x.i.p.length → ∀ b o, x.ao = some ⟨b, o, none⟩ → some b ≠ v.ownBlock)
    (ho : w'.ownsRow B T 2 v' (L.length + 1) (wkc L ++ x.two)) (hg : (w.alloc ob).grownBy w' v.ownBlock) (hl : v'.ownBlock = v.ownBlock ∨ v'.ownBlock = some (w.alloc ob).heap.size) : OW w' B T v' (L ++ [x]) := by
  have bl : Below w.heap.size w (w.alloc ob) := (Below.refl _ _).alloc (Nat.le_refl _) _
  have hall : ∀ y ∈ L ++ [x], y.ok w ∧ (1 ≤ y.i.p.length → ∀ b o, y.ao = some ⟨b, o, none⟩ → some b ≠ v.ownBlock) := fun y hy => by
    rcases List.mem_append.1 hy with hy | hy
    · exact ⟨h.ok y hy, h.apart y hy⟩
    · rw [List.mem_singleton] at hy; subst hy; exact ⟨hx, hxa⟩
  refine ⟨?_, fun y hy => lf_grown (Lf.grow (hall y hy).1 bl) hg (hall y hy).2, fun y hy hn b o e => ?_⟩
  · rw [List.length_append, List.length_singleton, wkc_append, show wkc [x] = x.two by simp [wkc]]
    exact ho
  · rcases hl with hl | hl
    · rw [hl]; exact (hall y hy).2 hn b o e
    · rw [hl]
      obtain ⟨b', o', e', hlt, _⟩ := (hall y hy).1.lies hn
      rw [e] at e'
      injection e' with e'
      injection e' with e' _ _
      subst e'
      have hs : (w.alloc ob).heap.size = w.heap.size + 1 := by show (w.heap.push _).size = _; simp
      intro hh
      injection hh with hh
      omega

/-- A leaf that is new lies apart from a row that was there before. -/
theorem apart_neww {w w' : World} {B : Nat} {T : TypeId} {v : Value} {L : List Wv} (h : OW w B T v L) {x : Wv} (hn : ∀ b o, x.ao = some ⟨b, o, none⟩ → w.heap.size ≤ b) : 1 ≤ x.i.p.length → ∀ b o, x.ao = some ⟨b, o, none⟩ → some b ≠ v.ownBlock := fun _ b o e hh => by
  have h1 := hn b o e
  have h2 := h.lies b hh.symm
  omega

theorem ow_mono {w : World} {B B' : Nat} {T : TypeId} {v : Value} {L : List Wv} (h : OW w B T v L) (hB : B' ≤ B) : OW w B' T v L := by
  refine ⟨?_, h.ok, h.apart⟩
  obtain ⟨hl, he | ⟨g', cap', cur, hv, hg', hbk, hc, hm, hs, ht⟩⟩ := h.own
  · exact ⟨hl, .inl he⟩
  · exact ⟨hl, .inr ⟨g', cap', cur, hv, Nat.le_trans hB hg', hbk, hc, hm, hs, ht⟩⟩

/-- A new row of one leaf. -/
theorem new2w (w : World) (x : Wv) (T : TypeId) (j : Nat) (u : Value) (h : x.two[j]? = some u) : (w.alloc (.cells #[.slice x.ao x.i.p.length x.cap, .int .i64 x.i.k] T)).cell? ((⟨w.heap.size, 0, none⟩ : Addr).add j) = some u := by
  have hb : (w.alloc (.cells #[.slice x.ao x.i.p.length x.cap, .int .i64 x.i.k] T)).heap[w.heap.size]? = some (.cells #[.slice x.ao x.i.p.length x.cap, .int .i64 x.i.k] T) := by show (w.heap.push _)[w.heap.size]? = _; simp
  rw [add_none]
  unfold World.cell?
  rw [hb, Nat.zero_add]
  unfold Wv.two at h
  match j, h with
  | 0, h => exact h
  | 1, h => exact h

theorem plain2w (x : Wv) : ∀ u ∈ x.two, u.oneCell' = true := by
  intro u hu
  simp [Wv.two] at hu
  rcases hu with rfl | rfl <;> rfl

end Cls

end Go.Proofs.YtbnnobeahliffaaGreatDoor

set_option linter.unusedVariables false
namespace Go.Proofs.YtbnnobeahliffaaGreatDoor
open Go.RowKit
namespace Cls

theorem infoLq : ∃ i, Tryz.prog.info? 34 = some i ∧ i.zero = some (.agg #[.slice none 0 0, .int .i64 0]) ∧ i.size = 2 ∧ i.bytes = 32 := by
  have h : (Tryz.prog.info? 34).map (fun i => (i.zero, i.size, i.bytes)) = some (some (.agg #[.slice none 0 0, .int .i64 0]), 2, 32) := by kernel_rfl
  obtain ⟨i, hi, hz⟩ := Option.map_eq_some_iff.1 h
  simp only [Prod.mk.injEq] at hz
  exact ⟨i, hi, hz.1, hz.2.1, hz.2.2⟩

theorem lvs_yes {l : List Qn} {x : Qn} (h : x.kind = 1) : lvs (l ++ [x]) = lvs l ++ [x] := by
  unfold lvs
  rw [List.filter_append]
  simp [h]

theorem lvs_no {l : List Qn} {x : Qn} (h : ¬ x.kind = 1) : lvs (l ++ [x]) = lvs l := by
  unfold lvs
  rw [List.filter_append]
  simp [h]

theorem lvs_len (l : List Qn) : (lvs l).length ≤ l.length := List.length_filter_le _ _

/-- A row of leaves of one's own: these. -/
structure Lvr (w : World) (B : Nat) (v : Value) (l : List Qn) : Prop where
  ex : ∃ M : List Wv, OW w B 34 v M ∧ M.map Wv.i = l.map Qn.wi

end Cls

end Go.Proofs.YtbnnobeahliffaaGreatDoor

namespace Go.Proofs.YtbnnobeahliffaaGreatDoor
open Go.RowKit Go.Maps
namespace Cls

/-- A row of classes that is new, and may be written. -/
def Cn (w w' : World) (bo : Option Addr) (n : Nat) (P : Nat → Nat → Bool) : Prop := 1 ≤ n → ∃ g, bo = some ⟨g, 0, none⟩ ∧ w.heap.size ≤ g ∧ g < w'.heap.size ∧ Cl w' g 0 n P ∧ Wrt w' g 0 (n * 4)

theorem Cn.grow {w w1 w' : World} {bo : Option Addr} {n : Nat} {P : Nat → Nat → Bool} (h : Cn w w1 bo n P) (hb : Below w1.heap.size w1 w') : Cn w w' bo n P := fun hn => by
  obtain ⟨g, e, h1, h2, h3, h4⟩ := h hn
  exact ⟨g, e, h1, Nat.lt_of_lt_of_le h2 hb.size, h3.below hb h2, h4.below hb h2⟩

theorem Cn.from {w0 w w1 : World} {bo : Option Addr} {n : Nat} {P : Nat → Nat → Bool} (h : Cn w w1 bo n P) (hs : w0.heap.size ≤ w.heap.size) : Cn w0 w1 bo n P := fun hn => by
  obtain ⟨g, e, h1, r⟩ := h hn
  exact ⟨g, e, Nat.le_trans hs h1, r⟩

theorem Cn.lf {w w' : World} {bo : Option Addr} {n : Nat} {P : Nat → Nat → Bool} (h : Cn w w' bo n P) (hs : n ≤ 4398046511104) : Lf w' bo n P := ⟨hs, fun hn => by
  obtain ⟨g, e, _, h2, h3, _⟩ := h hn
  exact ⟨g, 0, e, h2, h3⟩⟩

theorem emptyC_own (w : World) : (w.alloc (.cells #[] 67)).ownsRow w.heap.size 67 4 (.slice (some ⟨w.heap.size, 0, none⟩) 0 0) 0 [] := World.ownsRow_lit w #[] 0 (Nat.le_refl _) (by unfold maxLen; omega) rfl

theorem emptyC_grown {w v1 : World} (hg : (w.alloc (.cells #[] 67)).grownBy v1 (Value.ownBlock (.slice (some ⟨w.heap.size, 0, none⟩) 0 0))) : Below w.heap.size w v1 :=
  ((Below.refl w.heap.size w).alloc (Nat.le_refl _) (.cells #[] 67)).grown hg (by show _ ≤ (w.heap.push _).size; simp) (fun k hk => by simp [Value.ownBlock] at hk; omega)

set_option maxHeartbeats 1000000 in
theorem clone12_any (P : Nat → Nat → Bool) (n cap : Nat) (ao : Option Addr) (w : World) (hl : Lf w ao n P) :
    Calls Tryz.prog 34 #[.slice ao n cap] w fun e w' => (∃ bo d, e = .returned (.slice bo n d) ∧ Cn w w' bo n P) ∧ Below w.heap.size w w' := by
  cases ao with
  | none =>
    obtain rfl : n = 0 := by
      rcases Nat.eq_zero_or_pos n with h | h
      · exact h
      · obtain ⟨b, o, e, _⟩ := hl.lies h
        cases e
    have hnil : ∀ w, (binOp .eql 32 (.slice none 0 cap) (.slice none 0 0)).run Tryz.prog w = .ok (.bool true) w := fun w => run_eql_slice_nil w 32 67 _ _ _ Tryz.underlying32
    clear hl
    go_enter Tryz.func34, Tryz.ntmps34
    go_wp2_with fail
    go_ret
    exact ⟨⟨none, 0, rfl, fun h => absurd h (by omega)⟩, Below.refl _ _⟩
  | some x =>
    obtain ⟨i0, hi, hz0, hz1, hz2⟩ := infoC
    have hn := hl.small
    have hown0 := emptyC_own w
    have hlen : (cls (rwl P n)).length = n * 4 := by rw [cls_len, rwl_len]
    have hone : ∀ u ∈ cls (rwl P n), u.oneCell' = true := cls_one (rwl P n)
    have hnews : ∀ j u, (cls (rwl P n))[j]? = some u → (w.alloc (.cells #[] 67)).cell? (x.add j) = some u := by
      intro j u hu
      have hj : j < n * 4 := by
        have := (List.getElem?_eq_some_iff.1 hu).1
        omega
      obtain ⟨b, o, e, hlt, hc⟩ := hl.lies (by omega)
      obtain rfl : x = ⟨b, o, none⟩ := Option.some.inj e
      exact cl_cells (hc.below ((Below.refl _ _).alloc (Nat.le_refl _) _) hlt) j u hu
    have hnil : ∀ w, (binOp .eql 32 (.slice (some x) n cap) (.slice none 0 0)).run Tryz.prog w = .ok (.bool false) w := fun w => run_eql_slice_nil w 32 67 _ _ _ Tryz.underlying32
    clear hl
    go_enter Tryz.func34, Tryz.ntmps34
    go_wp2_with (at_builtin; refine wpList_append_own _ rfl _ _ 32 rfl w.heap.size 67 i0 (.agg #[.int .u64 0, .int .u64 0, .int .u64 0, .int .u64 0]) 4 32 Tryz.underlying32 hi hz0 hz1 hz2 rfl (by decide) _ _ _ rfl hown0 x n cap (cls (rwl P n)) rfl hlen hnews hone (by unfold maxLen; omega) (by omega) (by simp) ?_)
    intro gv w1 hown' hgrow _
    have B1 : Hid _ := emptyC_grown hgrow
    have HO : Hid (∃ bo d, gv = .slice bo n d ∧ Cn w w1 bo n P) := by
      by_cases h1 : 1 ≤ n
      · obtain ⟨g, c, e, _, hg, hlt, hc, hf⟩ := owns_cells hown' h1
        refine ⟨_, c, e, fun _ => ⟨g, rfl, hg, hlt, fun t ht k hk => ?_, fun t _ => hf _⟩⟩
        rw [Nat.zero_add, hc _ (by omega), cls_at _ _ _ (by rw [rwl_len]; exact ht) hk, rwl_at P n t ht]
      · obtain ⟨_, ⟨e, e2⟩ | ⟨g', c, cur, hv, _⟩⟩ := hown'
        · exact ⟨none, 0, by rw [e, e2], fun h => absurd h h1⟩
        · exact ⟨_, _, hv, fun h => absurd h h1⟩
    obtain ⟨bo, d, rfl, hc⟩ := HO.out
    have HC : Hid (Cn w w1 bo n P) := hc
    clear hown' hgrow hnews hown0 hc HO
    go_wp2_with fail
    go_ret
    exact ⟨⟨bo, d, rfl, HC.out⟩, B1.out⟩

end Cls

end Go.Proofs.YtbnnobeahliffaaGreatDoor

set_option linter.unusedVariables false
namespace Go.Proofs.YtbnnobeahliffaaGreatDoor
open Go.RowKit
namespace Cls

/-- A call at a step of a region that draws: what it tells is not known before. -/
theorem step_calls {P : Program} {ops : Array Oper} {o : Oper} {a : Act} {w : World} {K : Act → World → Prop} {Q : Exit → Act → World → Prop} {E : Prop}
    (hgd : o.guard = none) (f : Nat) (args : Array Operand) (ts : Array TypeId) (ho : o.op = .call { callee := .value (.func f), args := args, argTypes := ts }) (vs : Array Value) (hv : args.map a.eval = vs)
    (hen : ∀ w, (callFunc f vs).run P w = .ok (.enter f vs) w)
    (R : Value → World → Prop) (hc : Calls P f vs w fun e w' => ∃ v, e = .returned v ∧ R v w') (h : ∀ v w', R v w' → K (a.put o.dst v) w') :
    if Region.wanted o (yielded ops a.tmps) = true then Oper.wp P o a w K Q else E := by
  have hw : Region.wanted o (yielded ops a.tmps) = true := by simp [Region.wanted, hgd]
  rw [if_pos hw]
  have hf : a.eval (.func f) = .func (.func f) #[] #[] := by simp [Act.eval]
  unfold Oper.wp
  simp [execOp, ho, resolve, invoke, hv, hf, Deferred.ofValue, hen, Oper.upon]
  refine Calls.mono hc ?_
  rintro e w' ⟨v, rfl, hR⟩
  exact h v w' hR

/-- A leaf's row that is new: where it lies. -/
def Cw (w w' : World) (v : Value) (p : List (Nat → Bool)) : Prop := ∃ bo d, v = .slice bo p.length d ∧ Cn w w' bo p.length (at' p) ∧ Below w.heap.size w w'

/-- A leaf is appended: its row a new one. -/
theorem lv_step {w w1 w3 w8 : World} {v : Value} {M : List Wv} {p : List (Nat → Bool)} {k : Int} {bo : Option Addr} {d j g cp : Nat} {l l2 : List Qn} {x : Qn} (hb : Below w.heap.size w w1) (hM : OW w1 w.heap.size 34 v M) (hMi : M.map Wv.i = l.map Qn.wi) (hl2 : l2 = l ++ [x]) (hx : x.wi = ⟨p, k⟩) (hj : M.length = j)
    (h9 : p.length ≤ 4398046511104) (hc : Cn w1 w3 bo p.length (at' p)) (b3 : Below w1.heap.size w1 w3)
    (ho : w8.ownsRow w.heap.size 34 2 (.slice (some ⟨g, 0, none⟩) (j + 1) cp) (j + 1) (wkc M ++ [.slice bo p.length d, .int .i64 k])) (hg : (w3.alloc (.cells #[.slice bo p.length d, .int .i64 k] 34)).grownBy w8 v.ownBlock)
    (hat : v.ownBlock = some g ∨ g = (w3.alloc (.cells #[.slice bo p.length d, .int .i64 k] 34)).heap.size) : Lvr w8 w.heap.size (.slice (some ⟨g, 0, none⟩) (j + 1) cp) l2 ∧ Below w.heap.size w w8 := by
  have hM3 := hM.grow b3
  have hs := hb.size
  refine ⟨⟨M ++ [⟨⟨p, k⟩, bo, d⟩], hM3.step (ob := .cells #[.slice bo p.length d, .int .i64 k] 34) (x := ⟨⟨p, k⟩, bo, d⟩) (hc.lf h9) (fun hn b o e hh => ?_) (by rw [hj]; exact ho) hg ?_, ?_⟩, ?_⟩
  · obtain ⟨g', e', h1, _⟩ := hc hn
    have h2 := hM.lies b hh.symm
    have e : bo = some ⟨b, o, none⟩ := e
    rw [e'] at e
    cases e
    omega
  · rcases hat with h | h
    · exact .inl h.symm
    · right; show some g = _; rw [h]
  · rw [hl2, List.map_append, List.map_append, hMi, List.map_singleton, List.map_singleton, hx]
  · exact grow_below (by have := b3.size; omega) (bgrow' hb b3) hM3.own hg

set_option maxRecDepth 100000 in
set_option maxHeartbeats 4000000 in
theorem qleaves_any (n cap : Nat) (so : Option Addr) (L : List Qv) (hn : L.length = n) (hn9 : n ≤ 100000) (w : World) (hL : QR w so L) :
    Calls Tryz.prog 17 #[.slice so n cap] w fun e w' => (∃ v, e = .returned v ∧ Lvr w' w.heap.size v (lvs (qis L))) ∧ Below w.heap.size w w' := by
  obtain ⟨i0, hi0, hz0, hz1, hz2⟩ := infoLq
  have HL : Hid _ := hL
  have HN : Hid (L.length = n) := hn
  have HALL : Hid ((qis L).take n = qis L) := by show _ = _; rw [List.take_of_length_le]; rw [qis_len, hn]; exact Nat.le_refl _
  clear hL hn
  go_enter Tryz.func17, Tryz.ntmps17
  go_wp2_with fail
  go_loopw [3, 8] (fun v vi wr => Below w.heap.size w wr ∧ ∃ i : Nat, i ≤ n ∧ vi = .int .i64 (i : Int) ∧ Lvr wr w.heap.size v (lvs ((qis L).take i))) (fun _ vi _ => n - (intOf vi).toNat)
  case atStart => exact ⟨Below.refl _ _, 0, Nat.zero_le _, rfl, ⟨[], ow_nil _ _ _, rfl⟩⟩
  case round =>
    obtain ⟨hbel, i, hi, rfl, hLv⟩ := hrel
    have HB : Hid _ := hbel
    have HV : Hid (Lvr wr w.heap.size u3 (lvs ((qis L).take i))) := hLv
    clear hbel hLv
    by_cases hin : i < n
    · have hiI : (i : Int) < (n : Int) := by omega
      have h1 : i < L.length := by rw [HN.out]; exact hin
      have hh : i < (qis L).length := by rw [qis_len]; exact h1
      have htk : (qis L).take (i + 1) = (qis L).take i ++ [L[i].i] := by rw [← List.take_append_getElem hh, qis_at L i h1 hh]
      obtain ⟨b, o, rfl, hb, hC⟩ := (HL.out.grow HB.out).lies (by omega)
      obtain ⟨c0, c1, c2, c3⟩ := hC i h1
      have hok : Lf wr L[i].ao L[i].i.p.length (at' L[i].i.p) := (HL.out.ok L[i] (List.getElem_mem h1)).grow HB.out
      have hls : (lvs ((qis L).take i)).length ≤ i := by
        have := lvs_len ((qis L).take i)
        rw [List.length_take] at this
        omega
      have HTK : Hid ((L[i].i.kind = 1 → lvs ((qis L).take (i + 1)) = lvs ((qis L).take i) ++ [L[i].i]) ∧ (¬ L[i].i.kind = 1 → lvs ((qis L).take (i + 1)) = lvs ((qis L).take i))) := ⟨fun h => by rw [htk, lvs_yes h], fun h => by rw [htk, lvs_no h]⟩
      clear hC htk
      generalize L[i] = x at *
      obtain ⟨w1, e1⟩ : ∃ w1, w1 = wr.alloc (.cells #[.int .i64 x.i.kind, .int .i64 x.i.n, .slice x.ao x.i.p.length x.cap, .int .i64 x.i.k] 36) := ⟨_, rfl⟩
      have b1 : Below wr.heap.size wr w1 := by rw [e1]; exact al_below _ _
      obtain ⟨a0, a1, a2, a3⟩ : K4 w1 wr.heap.size (.int .i64 x.i.kind) (.int .i64 x.i.n) (.slice x.ao x.i.p.length x.cap) (.int .i64 x.i.k) := by rw [e1]; exact k4_new _ _ _ _ _ _
      have E1 : Hid _ := e1
      have HB1 : Hid (Below w.heap.size w w1) := bgrow' HB.out b1
      have hlt1 : wr.heap.size < w1.heap.size := by rw [e1, al_size]; omega
      by_cases hk : x.i.kind = 1
      · have HT2 : Hid _ := HTK.out.1 hk
        have qk : (x.i.kind == 1) = true := by simpa using hk
        obtain ⟨M, hM, hMi⟩ := HV.out.ex
        have hMl : M.length ≤ i := by have := congrArg List.length hMi; simp only [List.length_map] at this; omega
        obtain ⟨j, hj⟩ : ∃ j, M.length = j := ⟨_, rfl⟩
        have HM : Hid (OW w1 w.heap.size 34 u3 M) := hM.grow b1
        have hok1 := hok.grow b1
        have hl9 := hok.small
        have CC : Hid (Calls Tryz.prog 34 #[.slice x.ao x.i.p.length x.cap] w1.drew fun e w' => ∃ u, e = .returned u ∧ Cw w1.drew w' u x.i.p) := by
          refine Calls.mono (clone12_any (at' x.i.p) x.i.p.length x.cap x.ao w1.drew ⟨hok1.small, hok1.lies⟩) ?_
          rintro e w' ⟨⟨bo, d, rfl, hc⟩, hb⟩
          exact ⟨_, rfl, bo, d, rfl, hc, hb⟩
        have KX : Hid (K4 w1 wr.heap.size (.int .i64 x.i.kind) (.int .i64 x.i.n) (.slice x.ao x.i.p.length x.cap) (.int .i64 x.i.k)) := ⟨a0, a1, a2, a3⟩
        have HLV : Hid (∀ (w3 w8 : World) (bo : Option Addr) (d g cp : Nat), Cn w1 w3 bo x.i.p.length (at' x.i.p) → Below w1.heap.size w1 w3 → w8.ownsRow w.heap.size 34 2 (.slice (some ⟨g, 0, none⟩) (j + 1) cp) (j + 1) (wkc M ++ [.slice bo x.i.p.length d, .int .i64 x.i.k]) → (w3.alloc (.cells #[.slice bo x.i.p.length d, .int .i64 x.i.k] 34)).grownBy w8 u3.ownBlock → (u3.ownBlock = some g ∨ g = (w3.alloc (.cells #[.slice bo x.i.p.length d, .int .i64 x.i.k] 34)).heap.size) → Lvr w8 w.heap.size (.slice (some ⟨g, 0, none⟩) (j + 1) cp) (lvs ((qis L).take (i + 1))) ∧ Below w.heap.size w w8) := fun w3 w8 bo d g cp h1 h2 h3 h4 h5 =>
          lv_step HB1.out HM.out hMi HT2.out rfl hj hl9 h1 h2 h3 h4 h5
        have OM : Hid (w1.ownsRow w.heap.size 34 2 u3 j (wkc M)) := by have := HM.out.own; rw [hj] at this; exact this
        have hsz : w.heap.size ≤ w1.heap.size := HB1.out.size
        have hj9 : j ≤ 100000 := by omega
        clear HTK hk hM hMi hok hok1 HV e1 b1 HT2 hj hMl
        go_wp2_with (first | rw [← E1.out])
        go_region_law (first
          | (refine step_calls (by rfl) 34 _ _ (by rfl) #[.slice x.ao x.i.p.length x.cap] (by simp [Act.eval]) (fun w => run_enter Tryz.func34 (by kernel_rfl) (by kernel_rfl) _ w) _ (CC.out) ?_; intro u w3 hc; obtain ⟨bo, d, hu, hcn, hb3⟩ := hc; subst hu; have hb4 : Below w1.heap.size w1 w3 := undrew hb3; have HCN : Hid (Cn w1 w3 bo x.i.p.length (at' x.i.p)) := hcn; have HB4 : Hid (Below w1.heap.size w1 w3) := hb4; have O3 : Hid (w3.ownsRow w.heap.size 34 2 u3 j (wkc M)) := owns_below OM.out hb4 (Nat.le_refl _); have hsz3 : w.heap.size ≤ w3.heap.size := Nat.le_trans hsz hb4.size; have hl3 : wr.heap.size < w3.heap.size := Nat.lt_of_lt_of_le hlt1 hb4.size; have d2 := (KX.out.keep hb4).c3; clear hcn hb3 hb4)
          | (refine step_append_lies _ (by rfl) _ _ _ (by rfl) w.heap.size 34 i0 (.agg #[.slice none 0 0, .int .i64 0]) 2 32 Tryz.underlying39 hi0 hz0 hz1 hz2 (by rfl) (by decide) u3 j (wkc M) (by simp [Act.eval]) (O3.out.alloc _) ⟨w3.heap.size, 0, none⟩ 1 1 ([.slice bo x.i.p.length d, .int .i64 x.i.k] : List Value) (by simp [Act.eval]) (by rfl) (fun k u h => new2w w3 ⟨⟨x.i.p, x.i.k⟩, bo, d⟩ _ k u h) (plain2w ⟨⟨x.i.p, x.i.k⟩, bo, d⟩) (by omega) (by unfold maxLen; omega) (by omega) (by simp; omega) _ (by rfl) ?_; intro g cp w8 hown8 hgrow hat hlt8; have T8 : Hid _ := HLV.out w3 w8 bo d g cp HCN.out HB4.out hown8 hgrow hat; clear hown8 hgrow hat hlt8))
        all_goals
          go_wp2_with fail
          go_roundw
          case rel => exact ⟨T8.out.2, i + 1, by omega, by go_num, T8.out.1⟩
          case measure => simp [intOf]; omega
      · have HT2 : Hid _ := HTK.out.2 hk
        have qk : (x.i.kind == 1) = false := by simpa using hk
        have HV2 : Hid (Lvr w1 w.heap.size u3 (lvs ((qis L).take (i + 1)))) := by
          show Lvr _ _ _ _
          rw [HT2.out]
          obtain ⟨M, hM, hMi⟩ := HV.out.ex
          exact ⟨M, hM.grow b1, hMi⟩
        clear HTK hk HT2 hok e1 b1
        generalize x.i.kind = xk at *
        go_wp2_with (first | rw [← E1.out])
        go_roundw
        case rel => exact ⟨HB1.out, i + 1, by omega, by go_num, HV2.out⟩
        case measure => simp [intOf]; omega
    · obtain rfl : i = n := by omega
      have HV2 : Hid (Lvr wr w.heap.size u3 (lvs (qis L))) := by have := HV.out; rw [HALL.out] at this; exact this
      go_wp2_with fail
      go_ret
      exact ⟨⟨u3, rfl, HV2.out⟩, HB.out⟩

end Cls

end Go.Proofs.YtbnnobeahliffaaGreatDoor

set_option linter.unusedVariables false
namespace Go.Proofs.YtbnnobeahliffaaGreatDoor
open Go.RowKit
namespace Cls

set_option maxRecDepth 100000 in
set_option maxHeartbeats 4000000 in
theorem qlongest_any (n cap : Nat) (so : Option Addr) (L : List Qv) (hn : L.length = n) (w : World) (hL : QR w so L) :
    Calls Tryz.prog 16 #[.slice so n cap] w fun e w' => e = .returned (.int .i64 (lng (qis L) : Int)) ∧ Below w.heap.size w w' := by
  have hn2 : n ≤ 4398046511104 := by have := hL.small; omega
  have HL : Hid _ := hL
  have HN : Hid (L.length = n) := hn
  have HALL : Hid ((qis L).take n = qis L) := by show _ = _; rw [List.take_of_length_le]; rw [qis_len, hn]; exact Nat.le_refl _
  have HBD : Hid (∀ i, lng ((qis L).take i) ≤ 4398046511104) := fun i => lng_le _ _ (fun x hx => by
    have hx := List.mem_of_mem_take hx
    unfold qis at hx
    obtain ⟨y, hy, rfl⟩ := List.mem_map.1 hx
    exact (hL.ok y hy).small)
  obtain ⟨res, hres⟩ : ∃ res, lng (qis L) = res := ⟨_, rfl⟩
  have HRES : Hid (lng ((qis L).take n) = res) := by show _ = _; rw [HALL.out, hres]
  rw [hres]
  clear hL hn hres
  go_enter Tryz.func16, Tryz.ntmps16
  go_wp2_with fail
  go_loopw [3, 8] (fun vo vi wr => Below w.heap.size w wr ∧ ∃ i : Nat, i ≤ n ∧ vi = .int .i64 (i : Int) ∧ vo = .int .i64 (lng ((qis L).take i) : Int)) (fun _ vi _ => n - (intOf vi).toNat)
  case atStart => exact ⟨Below.refl _ _, 0, Nat.zero_le _, rfl, rfl⟩
  case round =>
    obtain ⟨hbel, i, hi, rfl, rfl⟩ := hrel
    have HB : Hid _ := hbel
    clear hbel
    by_cases hin : i < n
    · have hiI : (i : Int) < (n : Int) := by omega
      have h1 : i < L.length := by rw [HN.out]; exact hin
      obtain ⟨b, o, rfl, hb, hC⟩ := (HL.out.grow HB.out).lies (by omega)
      obtain ⟨c0, c1, c2, c3⟩ := hC i h1
      have hok := (HL.out.ok L[i] (List.getElem_mem h1)).small
      have hst : lng ((qis L).take (i + 1)) = if L[i].i.kind = 1 ∧ lng ((qis L).take i) < L[i].i.p.length then L[i].i.p.length else lng ((qis L).take i) := by
        have hh : i < (qis L).length := by rw [qis_len]; exact h1
        rw [← List.take_append_getElem hh, lng_snoc, qis_at L i h1 hh]
      have hbd := HBD.out i
      generalize L[i] = x at *
      generalize lng ((qis L).take i) = m at *
      have HST : Hid _ := hst
      clear hC hst
      generalize x.i.kind = xk at *
      generalize x.i.n = xn at *
      generalize x.i.p.length = xl at *
      generalize x.i.k = xK at *
      generalize x.ao = xo at *
      generalize x.cap = xc at *
      have HB2 : Hid (Below w.heap.size w (wr.alloc (.cells #[.int .i64 xk, .int .i64 xn, .slice xo xl xc, .int .i64 xK] 36))) := HB.out.alloc HB.out.size _
      by_cases hk : xk = 1
      · have qk : (xk == 1) = true := by simpa using hk
        by_cases hl : m < xl
        · have HM : Hid (lng ((qis L).take (i + 1)) = xl) := by show _ = _; rw [HST.out, if_pos ⟨hk, hl⟩]
          have hlI : (m : Int) ≤ (xl : Int) := by omega
          have hlJ : max (m : Int) (xl : Int) = (xl : Int) := by omega
          clear hk HST
          go_wp2_with fail
          go_roundw
          case rel => exact ⟨HB2.out, i + 1, by omega, by go_num, by rw [HM.out]⟩
          case measure => simp [intOf]; omega
        · have hlI : (xl : Int) ≤ (m : Int) := by omega
          have hlJ : max (m : Int) (xl : Int) = (m : Int) := by omega
          have HM : Hid (lng ((qis L).take (i + 1)) = m) := by show _ = _; rw [HST.out, if_neg (fun e => hl e.2)]
          clear hk HST
          go_wp2_with fail
          go_roundw
          case rel => exact ⟨HB2.out, i + 1, by omega, by go_num, by rw [HM.out]⟩
          case measure => simp [intOf]; omega
      · have qk : (xk == 1) = false := by simpa using hk
        have HM : Hid (lng ((qis L).take (i + 1)) = m) := by show _ = _; rw [HST.out, if_neg (fun e => hk e.1)]
        clear hk HST
        go_wp2_with fail
        go_roundw
        case rel => exact ⟨HB2.out, i + 1, by omega, by go_num, by rw [HM.out]⟩
        case measure => simp [intOf]; omega
    · obtain rfl : i = n := by omega
      have HR : Hid (lng ((qis L).take i) = res) := HRES.out
      go_wp2_with fail
      go_ret
      exact ⟨by rw [← HR.out]; rfl, HB.out⟩

set_option maxRecDepth 100000 in
set_option maxHeartbeats 4000000 in
theorem qsamenode_any (x y : Qv) (w : World) (hx : x.ok w) (hy : y.ok w) :
    Calls Tryz.prog 32 #[x.val, y.val] w fun e w' => e = .returned (.bool (sqn x.i y.i)) ∧ Below w.heap.size w w' := by
  have CS : Hid (∀ v : World, Below w.heap.size w v → Calls Tryz.prog 46 #[.agg #[.slice x.ao x.i.p.length x.cap, .int .i64 x.i.k], .agg #[.slice y.ao y.i.p.length y.cap, .int .i64 y.i.k]] v fun e w' => e = .returned (.bool (sml (at' x.i.p) x.i.p.length x.i.k (at' y.i.p) y.i.p.length y.i.k)) ∧ Below v.heap.size v w') := fun v hv => same_any _ _ _ _ _ _ _ _ _ _ v (hx.grow hv) (hy.grow hv)
  rw [sqn_sml]
  unfold Qv.val
  generalize sml (at' x.i.p) x.i.p.length x.i.k (at' y.i.p) y.i.p.length y.i.k = ss at *
  generalize x.i.kind = xk at *
  generalize x.i.n = xn at *
  generalize x.i.k = xK at *
  generalize x.cap = xc at *
  generalize y.i.kind = yk at *
  generalize y.i.n = yn at *
  generalize y.i.k = yK at *
  generalize y.cap = yc at *
  generalize x.i.p.length = xl at *
  generalize x.ao = xo at *
  generalize y.i.p.length = yl at *
  generalize y.ao = yo at *
  have BB : Hid (Below w.heap.size w ((w.alloc (.cells #[.int .i64 xk, .int .i64 xn, .slice xo xl xc, .int .i64 xK] 36)).alloc (.cells #[.int .i64 yk, .int .i64 yn, .slice yo yl yc, .int .i64 yK] 36))) := bgrow' (al_below _ _) (al_below _ _)
  clear hx hy
  by_cases hk : xk = yk
  · subst hk
    have qk : (xk == xk) = true := by simp
    by_cases hN : xn = yn
    · subst hN
      have qN : (xn == xn) = true := by simp
      have e1 : (decide (xk = xk) && (decide (xn = xn) && ss)) = ss := by simp
      rw [e1]
      clear e1
      go_enter Tryz.func32, Tryz.ntmps32
      go_wp2_with fail
      refine Calls.mono (CS.out _ BB.out) ?_; rintro e w2 ⟨rfl, b2⟩
      have B2 : Hid (Below w.heap.size w w2) := bgrow' BB.out b2
      clear b2 CS BB
      go_wp2_with fail
      go_ret
      exact ⟨rfl, B2.out⟩
    · have qN : (xn == yn) = false := by simpa using hN
      have e1 : (decide (xk = xk) && (decide (xn = yn) && ss)) = false := by simp [hN]
      rw [e1]
      clear e1 hN
      go_enter Tryz.func32, Tryz.ntmps32
      go_wp2_with fail
      go_ret
      exact ⟨rfl, BB.out⟩
  · have qk : (xk == yk) = false := by simpa using hk
    have e1 : (decide (xk = yk) && (decide (xn = yn) && ss)) = false := by simp [hk]
    rw [e1]
    clear e1 hk
    go_enter Tryz.func32, Tryz.ntmps32
    go_wp2_with fail
    go_ret
    exact ⟨rfl, BB.out⟩

set_option maxRecDepth 100000 in
set_option maxHeartbeats 4000000 in
theorem qequal_any (n m : Nat) (so tt : Option Addr) (ca cb : Nat) (L M : List Qv) (w : World) (hn : L.length = n) (hm : M.length = m) (hL : QR w so L) (hM : QR w tt M) :
    Calls Tryz.prog 31 #[.slice so n ca, .slice tt m cb, .func (.func 32) #[] #[]] w fun e w' => e = .returned (.bool (sqr (qis L) (qis M))) ∧ Below w.heap.size w w' := by
  have hn2 : n ≤ 4398046511104 := by have := hL.small; omega
  have hm2 : m ≤ 4398046511104 := by have := hM.small; omega
  have HL : Hid _ := hL
  have HM : Hid _ := hM
  have HN : Hid (L.length = n ∧ M.length = m) := ⟨hn, hm⟩
  by_cases hnm : n = m
  · subst hnm
    have qn : ((n : Int) != (n : Int)) = false := by simp
    have HY : Hid ((∀ i, i < n → sqn (qat (qis L) i) (qat (qis M) i) = true) → sqr (qis L) (qis M) = true) := fun h => by
      unfold sqr
      rw [qis_len, qis_len, hn, hm, decide_eq_true rfl, all_range h]
      rfl
    have HNo : Hid (∀ i, i < n → sqn (qat (qis L) i) (qat (qis M) i) = false → sqr (qis L) (qis M) = false) := fun i hi h => by
      unfold sqr
      rw [qis_len, qis_len, hn, hm, decide_eq_true rfl, all_range_no hi h]
      rfl
    generalize sqr (qis L) (qis M) = res at *
    clear hL hM hn hm
    go_enter Tryz.func31, Tryz.ntmps31
    go_wp2_with fail
    go_loopw [17] (fun vi wr => Below w.heap.size w wr ∧ ∃ i : Nat, i ≤ n ∧ vi = .int .i64 (i : Int) ∧ ∀ t, t < i → sqn (qat (qis L) t) (qat (qis M) t) = true) (fun vi _ => n - (intOf vi).toNat)
    case atStart => exact ⟨Below.refl _ _, 0, Nat.zero_le _, rfl, fun t ht => by omega⟩
    case round =>
      obtain ⟨hbel, i, hi, rfl, hall⟩ := hrel
      have HB : Hid _ := hbel
      have HS : Hid _ := hall
      clear hbel hall
      by_cases hin : i < n
      · have hiI : (i : Int) < (n : Int) := by omega
        have h1 : i < L.length := by rw [HN.out.1]; exact hin
        have h2 : i < M.length := by rw [HN.out.2]; exact hin
        have hNo := HNo.out i hin
        have e1 : qat (qis L) i = L[i].i := by rw [qat_at (by rw [qis_len]; exact h1), qis_at L i h1]
        have e2 : qat (qis M) i = M[i].i := by rw [qat_at (by rw [qis_len]; exact h2), qis_at M i h2]
        have hS : sqn (qat (qis L) i) (qat (qis M) i) = true → ∀ t, t < i + 1 → sqn (qat (qis L) t) (qat (qis M) t) = true := fun e t ht => by
          by_cases e3 : t = i
          · subst e3; exact e
          · exact HS.out t (by omega)
        rw [e1, e2] at hNo hS
        obtain ⟨b, o, rfl, hb, hC⟩ := HL.out.lies (by omega)
        obtain ⟨b', o', rfl, hb', hD⟩ := HM.out.lies (by omega)
        have hbr : b < wr.heap.size := Nat.lt_of_lt_of_le hb HB.out.size
        have hbr' : b' < wr.heap.size := Nat.lt_of_lt_of_le hb' HB.out.size
        obtain ⟨c0, c1, c2, c3⟩ := (hC i h1).grow HB.out
        have HDD := (hD i h2).grow HB.out
        have hx := (HL.out.ok L[i] (List.getElem_mem h1)).grow HB.out
        have hy := (HM.out.ok M[i] (List.getElem_mem h2)).grow HB.out
        clear hC hD e1 e2
        generalize L[i] = x at *
        generalize M[i] = y at *
        clear h1 h2
        have CS : Hid (∀ v : World, Below wr.heap.size wr v → Calls Tryz.prog 32 #[.agg #[.int .i64 x.i.kind, .int .i64 x.i.n, .slice x.ao x.i.p.length x.cap, .int .i64 x.i.k], .agg #[.int .i64 y.i.kind, .int .i64 y.i.n, .slice y.ao y.i.p.length y.cap, .int .i64 y.i.k]] v fun e w' => e = .returned (.bool (sqn x.i y.i)) ∧ Below v.heap.size v w') := fun v hv => qsamenode_any x y v (hx.grow hv) (hy.grow hv)
        have HNO : Hid _ := hNo
        have HST : Hid _ := hS
        have BB : Hid (Below wr.heap.size wr ((wr.alloc (.cells #[.int .i64 x.i.kind, .int .i64 x.i.n, .slice x.ao x.i.p.length x.cap, .int .i64 x.i.k] 36)).alloc (.cells #[.int .i64 y.i.kind, .int .i64 y.i.n, .slice y.ao y.i.p.length y.cap, .int .i64 y.i.k] 36))) := bgrow' (al_below _ _) (al_below _ _)
        obtain ⟨d0, d1, d2, d3⟩ := HDD.grow (al_below wr (.cells #[.int .i64 x.i.kind, .int .i64 x.i.n, .slice x.ao x.i.p.length x.cap, .int .i64 x.i.k] 36))
        clear hx hy hNo hS HDD
        generalize sqn x.i y.i = ss at *
        generalize x.i.kind = xk at *
        generalize x.i.n = xn at *
        generalize x.i.p.length = xl at *
        generalize x.i.k = xK at *
        generalize x.ao = xo at *
        generalize x.cap = xc at *
        generalize y.i.kind = yk at *
        generalize y.i.n = yn at *
        generalize y.i.p.length = yl at *
        generalize y.i.k = yK at *
        generalize y.ao = yo at *
        generalize y.cap = yc at *
        clear x y
        go_wp2_with fail
        refine Calls.mono (CS.out _ BB.out) ?_; rintro e w2 ⟨rfl, b2⟩
        have B2 : Hid (Below w.heap.size w w2) := bgrow' (bgrow' HB.out BB.out) b2
        clear b2 CS BB HB c0 c1 c2 c3 d0 d1 d2 d3
        cases ss with
        | true =>
          have HT : Hid _ := HST.out rfl
          clear HNO HST
          go_wp2_with fail
          go_roundw
          case rel => exact ⟨B2.out, i + 1, by omega, by go_num, HT.out⟩
          case measure => simp [intOf]; omega
        | false =>
          have HF : Hid (res = false) := HNO.out rfl
          clear HNO HST
          go_wp2_with fail
          go_ret
          exact ⟨by rw [HF.out]; rfl, B2.out⟩
      · obtain rfl : i = n := by omega
        have HT : Hid (res = true) := HY.out HS.out
        go_wp2_with fail
        go_ret
        exact ⟨by rw [HT.out]; rfl, HB.out⟩
  · have qn : ((n : Int) != (m : Int)) = true := by
      have : ¬ (n : Int) = (m : Int) := by omega
      simpa using this
    have HR : Hid (sqr (qis L) (qis M) = false) := by
      show _ = _
      unfold sqr
      rw [qis_len, qis_len, hn, hm, decide_eq_false hnm]
      rfl
    generalize sqr (qis L) (qis M) = res at *
    clear hL hM hn hm hnm
    go_enter Tryz.func31, Tryz.ntmps31
    go_wp2_with fail
    go_ret
    exact ⟨by rw [HR.out]; rfl, Below.refl _ _⟩

set_option maxRecDepth 100000 in
set_option maxHeartbeats 4000000 in
theorem qsame_any (n m ca cb : Nat) (so tt : Option Addr) (L M : List Qv) (w : World) (hn : L.length = n) (hm : M.length = m) (hL : QR w so L) (hM : QR w tt M) :
    Calls Tryz.prog 14 #[.slice so n ca, .slice tt m cb] w fun e w' => e = .returned (.bool (sqr (qis L) (qis M))) ∧ Below w.heap.size w w' := by
  have CE : Hid _ := qequal_any n m so tt ca cb L M w hn hm hL hM
  generalize sqr (qis L) (qis M) = res at *
  clear hL hM hn hm
  go_enter Tryz.func14, Tryz.ntmps14
  go_wp2_with fail
  refine Calls.mono CE.out ?_; rintro e w2 ⟨rfl, b2⟩
  have B2 : Hid (Below w.heap.size w w2) := b2
  clear b2 CE
  go_wp2_with fail
  go_ret
  exact ⟨rfl, B2.out⟩

end Cls

end Go.Proofs.YtbnnobeahliffaaGreatDoor

set_option linter.unusedVariables false
namespace Go.Proofs.YtbnnobeahliffaaGreatDoor
open Go.RowKit
namespace Cls

theorem qpar_few (s : ByteArray) : (qpar s).1.length ≤ 64 := by
  unfold qpar
  split
  · simp
  · split
    · simp
    · simp
    · rename_i X _
      split
      · simp
      split
      · simp
      · show X.flat.length ≤ 64
        omega

theorem qpar_rg (s : ByteArray) : qrg (qpar s).1 = decide ((qpar s).2.2 = 0) := by
  by_cases h : (qpar s).2.2 = 0
  · rw [h]
    have : qpar s = ((qpar s).1, (qpar s).2.1, 0) := by rw [← h]
    rw [qpar_right this]
    rfl
  · have : qpar s = ((qpar s).1, (qpar s).2.1, (qpar s).2.2) := rfl
    rw [qpar_none this h, decide_eq_false h]
    exact qrg_nil

theorem sqn_refl (x : Qn) : sqn x x = true := by
  unfold sqn
  rw [eqr_refl]
  simp

theorem sqr_refl (l : List Qn) : sqr l l = true := by
  unfold sqr
  rw [decide_eq_true rfl, all_range (fun t _ => sqn_refl _)]
  rfl

set_option maxRecDepth 100000 in
set_option maxHeartbeats 4000000 in
theorem qparses_gen (TT : World → Prop) (hg : ∀ v v' : World, TT v → Below v.heap.size v v' → TT v')
    (hA : ∀ v : World, TT v → Calls Tryz.prog 5 #[] v fun e w' => e = .returned (.bool true) ∧ Below v.heap.size v w')
    (hP : ∀ (s : ByteArray) (v : World), s.size ≤ 1000000 → TT v → Calls Tryz.prog 6 #[.string s] v fun e w' => Prs s w' v.heap.size e ∧ Below v.heap.size v w')
    (hR : ∀ (s : ByteArray) (v : World), s.size ≤ 1000000 → Calls Tryz.prog 7 #[.string s] v fun e w' => Prs s w' v.heap.size e ∧ Below v.heap.size v w')
    (hQ : ∀ (n cap : Nat) (so : Option Addr) (L : List Qv) (v : World), L.length = n → TT v → QR v so L → Calls Tryz.prog 9 #[.slice so n cap] v fun e w' => e = .returned (.bool (qrg (qis L))) ∧ Below v.heap.size v w')
    (s : ByteArray) (w : World) (hT : TT w) :
    Calls Tryz.prog 3 #[.string s] w fun e w' => e = .returned (.bool true) ∧ Below w.heap.size w w' := by
  have HG : Hid _ := hg
  have HT : Hid (TT w) := hT
  have CA : Hid _ := hA
  have CP : Hid _ := hP
  have CR : Hid _ := hR
  have CQ : Hid _ := hQ
  clear hg hA hP hR hQ hT
  by_cases hbig : 1100 < s.size
  · have hI : (1100 : Int) < (s.size : Int) := by omega
    go_enter Tryz.func3, Tryz.ntmps3
    go_wp2_with fail
    refine Calls.mono (CA.out w HT.out) ?_; rintro e w1 ⟨rfl, b1⟩
    have B1 : Hid (Below w.heap.size w w1) := b1
    clear b1
    go_wp2_with fail
    go_ret
    exact ⟨rfl, B1.out⟩
  · have hI : ¬ (1100 : Int) < (s.size : Int) := by omega
    have CP1 : Hid _ := CP.out s w (by omega) HT.out
    have CR1 : Hid _ := fun v => CR.out s v (by omega)
    have hfew := qpar_few s
    have hrg := qpar_rg s
    have hpl := qpar_place s
    unfold Prs at CP1 CR1
    generalize (qpar s).1 = l at *
    generalize (qpar s).2.1 = p at *
    generalize (qpar s).2.2 = c at *
    have HRG : Hid _ := hrg
    clear hrg
    have hp0 : (0 : Int) ≤ (p : Int) := by omega
    have hp1 : (p : Int) ≤ (s.size : Int) := by omega
    have qpp : ((p : Int) == (p : Int)) = true := by simp
    have qcc : ((c : Int) == (c : Int)) = true := by simp
    go_enter Tryz.func3, Tryz.ntmps3
    go_wp2_with fail
    refine Calls.mono CP1.out ?_; rintro e w1 ⟨⟨vo, m, vc, rfl, R, r1, r2, r3⟩, b1⟩
    have T1 : Hid (TT w1) := HG.out _ _ HT.out b1
    have B1 : Hid (Below w.heap.size w w1) := b1
    have HML : Hid (m = l.length) := by show _ = _; rw [← r3, qis_len, r1]
    have hm9 : m ≤ 4398046511104 := by have := HML.out; omega
    have O1 : Hid (OQ w1 w.heap.size 36 (.slice vo m vc) R) := r2
    have HR : Hid (R.length = m ∧ qis R = l) := ⟨r1, r3⟩
    clear b1 r1 r2 r3 CP1
    go_wp2_with fail
    refine Calls.mono (CR1.out w1) ?_; rintro e w2 ⟨⟨uo, m2, uc, rfl, R2, r1, r2, r3⟩, b2⟩
    have T2 : Hid (TT w2) := HG.out _ _ T1.out b2
    have B2 : Hid (Below w.heap.size w w2) := bgrow' B1.out b2
    have hm2 : m2 = m := by rw [HML.out, ← r3, qis_len, r1]
    subst hm2
    have O2 : Hid (OQ w2 w.heap.size 36 (.slice vo m2 vc) R) := O1.out.grow b2
    have U2 : Hid (OQ w2 w1.heap.size 36 (.slice uo m2 uc) R2) := r2
    have HR2 : Hid (R2.length = m2 ∧ qis R2 = l) := ⟨r1, r3⟩
    clear b2 r1 r2 r3 CR1 O1 T1
    go_wp2_with fail
    refine Calls.mono (CA.out w2 T2.out) ?_; rintro e w3 ⟨rfl, b3⟩
    have T3 : Hid (TT w3) := HG.out _ _ T2.out b3
    have B3 : Hid (Below w.heap.size w w3) := bgrow' B2.out b3
    have Q3 : Hid (QR w3 vo R) := (O2.out.grow b3).qr HR.out.1 hm9
    have V3 : Hid (QR w3 uo R2) := (U2.out.grow b3).qr HR2.out.1 hm9
    clear b3 O2 U2 T2 B2
    go_wp2_with fail
    refine Calls.mono (same14_any m2 m2 vo uo vc uc R R2 w3 HR.out.1 HR2.out.1 Q3.out V3.out) ?_; rintro e w4 ⟨rfl, b4⟩
    have T4 : Hid (TT w4) := HG.out _ _ T3.out b4
    have B4 : Hid (Below w.heap.size w w4) := bgrow' B3.out b4
    have Q4 : Hid (QR w4 vo R) := Q3.out.grow b4
    rw [HR.out.2, HR2.out.2, sqr_refl]
    clear b4 Q3 V3 T3 B3
    go_wp2_with fail
    refine Calls.mono (CQ.out m2 vc vo R w4 HR.out.1 T4.out Q4.out) ?_; rintro e w5 ⟨rfl, b5⟩
    have B5 : Hid (Below w.heap.size w w5) := bgrow' B4.out b5
    rw [HR.out.2, HRG.out]
    clear b5 Q4 T4 B4
    by_cases hc : c = 0
    · subst hc
      go_wp2_with fail
      go_ret
      exact ⟨rfl, B5.out⟩
    · have q0 : ((c : Int) == 0) = false := by
        have : ¬ (c : Int) = 0 := by omega
        simpa using this
      rw [decide_eq_false hc]
      go_wp2_with fail
      go_ret
      exact ⟨rfl, B5.out⟩

end Cls

end Go.Proofs.YtbnnobeahliffaaGreatDoor

set_option linter.unusedVariables false
namespace Go.Proofs.YtbnnobeahliffaaGreatDoor
open Go.RowKit
namespace Cls

theorem qls_sqr {L M : List Qn} (h : qls L M) : sqr L M = true := by
  have hl := qls_len h
  unfold sqr
  rw [decide_eq_true hl, all_range (fun t ht => ?_)]
  · rfl
  · rw [qat_at ht, qat_at (by omega)]
    exact qal_sqn (qls_at h t ht (by omega))

/-- What is parsed: its text; what that is parsed as. -/
theorem qpar_again {s : ByteArray} (h : (qpar s).2.2 = 0) : ∃ T : List Nat, qpt (qpar s).1 = some T ∧ T.length ≤ 12800000 ∧ (T.length ≤ 1000 → (qpar (tbs T)).2.2 = 0 ∧ sqr (qpar (tbs T)).1 (qpar s).1 = true ∧ qpt (qpar (tbs T)).1 = some T) := by
  have e : qpar s = ((qpar s).1, (qpar s).2.1, 0) := by rw [← h]
  obtain ⟨_, _, X, hX, hl, h1, h2, _⟩ := qpar_ok e
  have hq := qpar_right e
  rw [hl] at hq
  refine ⟨X.txt, by rw [hl]; exact qpt_tree hX.1 hq, by have := txt_le X hX; omega, fun hn => ?_⟩
  obtain ⟨t', e2, ha⟩ := qpar_txt hX h1 h2 hn
  rw [e2]
  refine ⟨rfl, by rw [hl]; exact qls_sqr (alk_flat ha), ?_⟩
  have hq2 := qpar_right e2
  obtain ⟨_, _, X2, hX2, hl2, _⟩ := qpar_ok e2
  have hok : t'.ok := by
    have h3 : 1 ≤ qdep t'.flat := by
      unfold qrg at hq2
      simp only [Bool.and_eq_true, decide_eq_true_eq] at hq2
      exact hq2.2.2.1
    exact Qt.alk_ind (P := fun t u => u.ok → t.ok) (fun x y g h => by rw [Qt.ok0] at h ⊢; rw [g.kind]; exact h) (fun x y a c g _ i h => by rw [Qt.ok1] at h ⊢; rw [g.kind]; exact ⟨h.1, i h.2⟩) (fun x y a b c d g _ _ i j h => by rw [Qt.ok2] at h ⊢; rw [g.kind]; exact ⟨h.1, i h.2.1, j h.2.2⟩) t' X ha hX.1
  rw [qpt_tree hok hq2, alk_txt ha]

end Cls

end Go.Proofs.YtbnnobeahliffaaGreatDoor

set_option linter.unusedVariables false
namespace Go.Proofs.YtbnnobeahliffaaGreatDoor
open Go.RowKit
namespace Cls

/-- A row's end. -/
theorem QR.cut {w : World} {b o : Nat} {R : List Qv} (h : QR w (some ⟨b, o, none⟩) R) (k : Nat) : QR w (some ⟨b, o + k * 4, none⟩) (R.drop k) := by
  refine ⟨by rw [List.length_drop]; have := h.small; omega, fun hn => ?_, fun x hx => h.ok x (List.mem_of_mem_drop hx)⟩
  rw [List.length_drop] at hn
  obtain ⟨b', o', e, hb, hC⟩ := h.lies (by omega)
  injection e with e
  injection e with e1 e2 _
  subst e1 e2
  refine ⟨b, o + k * 4, rfl, hb, fun t ht => ?_⟩
  rw [List.length_drop] at ht
  have := hC (k + t) (by omega)
  rw [List.getElem_drop]
  have e3 : o + (k + t) * 4 = o + k * 4 + t * 4 := by omega
  rw [e3] at this
  exact this

theorem OQ.room {w : World} {B : Nat} {T : TypeId} {so : Option Addr} {m c : Nat} {L : List Qv} (h : OQ w B T (.slice so m c) L) (hm : L.length = m) (h1 : 1 ≤ m) : m ≤ c ∧ c ≤ 9223372036854775807 ∧ ∃ g, so = some ⟨g, 0, none⟩ := by
  obtain ⟨_, ⟨e, e2⟩ | ⟨g', cap, cur, hv, _, _, hc, hx, _⟩⟩ := h.own
  · omega
  · injection hv with e1 e2 e3
    unfold maxLen at hx
    exact ⟨by omega, by omega, g', e1⟩

theorem add_any (a b : ByteArray) (h : a.size + b.size ≤ 9000000) : ∀ w : World, (Op.stringOp .add a b).run Tryz.prog w = .ok (.string (a ++ b)) w := fun w => run_string_add_sum (P := Tryz.prog) (w := w) a b (by omega)

end Cls

end Go.Proofs.YtbnnobeahliffaaGreatDoor

set_option linter.unusedVariables false
namespace Go.Proofs.YtbnnobeahliffaaGreatDoor
open Go.RowKit
namespace Cls

theorem alk_two {t u : Qt} {x : Qn} {a b : Qt} (h : t.alk u) (e : u = ⟨x, [a, b]⟩) : ∃ y c d, t = ⟨y, [c, d]⟩ ∧ qal y x ∧ c.alk a ∧ d.alk b := by
  subst e
  obtain ⟨y, s⟩ := t
  match s with
  | [] => exact absurd h (by simp [Qt.alk])
  | [c] => exact absurd h (by simp [Qt.alk])
  | [c, d] => rw [Qt.alk2] at h; exact ⟨y, c, d, rfl, h⟩
  | _ :: _ :: _ :: _ => exact absurd h (by simp [Qt.alk])

theorem alk_one {t u : Qt} {x : Qn} {a : Qt} (h : t.alk u) (e : u = ⟨x, [a]⟩) : ∃ y c, t = ⟨y, [c]⟩ ∧ qal y x ∧ c.alk a := by
  subst e
  obtain ⟨y, s⟩ := t
  match s with
  | [] => exact absurd h (by simp [Qt.alk])
  | [c] => rw [Qt.alk1] at h; exact ⟨y, c, rfl, h⟩
  | _ :: _ :: _ => exact absurd h (by simp [Qt.alk])

theorem alk_leaf {t u : Qt} {x : Qn} (h : t.alk u) (e : u = ⟨x, []⟩) : ∃ y, t = ⟨y, []⟩ ∧ qal y x := by
  subst e
  obtain ⟨y, s⟩ := t
  match s with
  | [] => rw [Qt.alk0] at h; exact ⟨y, rfl, h⟩
  | [c] => exact absurd h (by simp [Qt.alk])
  | _ :: _ :: _ => exact absurd h (by simp [Qt.alk])

def alw : List Qn := [⟨3, 0, [], 0⟩, ⟨2, 0, [], 0⟩, ⟨1, 0, pby [97], 0⟩, ⟨1, 0, pby [98], 0⟩, ⟨4, 0, [], 0⟩, ⟨1, 0, pby [99, 100], 1⟩]

/-- All that alive asks of its first query. -/
structure Alq4 (l : List Qn) : Prop where
  len : l.length = 6
  txt : qpt l = some [34, 97, 34, 32, 38, 32, 34, 98, 34, 32, 124, 32, 33, 34, 99, 100, 34, 126, 49]
  rgt : qrg l = true
  dep : qdep l = 3
  lng : lng l = 2
  lvs : (lvs l).length = 3
  no : qrg (l.drop 1) = false
  nod : qdep (l.take 5) = 0
  same : sqr l alw = true

theorem alv_of : ∃ l, qpar (tbs [34, 97, 34, 32, 38, 32, 34, 98, 34, 32, 124, 32, 33, 34, 99, 100, 34, 126, 49]) = (l, 19, 0) ∧ Alq4 l := by
  obtain ⟨t', hp, ha⟩ := alq_par
  have hrg := qpar_rg (tbs [34, 97, 34, 32, 38, 32, 34, 98, 34, 32, 124, 32, 33, 34, 99, 100, 34, 126, 49])
  rw [hp] at hrg
  have hrg2 : qrg t'.flat = true := hrg
  have hdp := alk_dep ha
  have htx := alk_txt ha
  rw [alq_txt] at htx
  have hfl := alk_flat ha
  have hsq := qls_sqr hfl
  obtain ⟨x0, c, d, rfl, q0, hc, hd⟩ := alk_two ha rfl
  obtain ⟨x1, e, f, rfl, q1, he, hf⟩ := alk_two hc rfl
  obtain ⟨x2, rfl, q2⟩ := alk_leaf he rfl
  obtain ⟨x3, rfl, q3⟩ := alk_leaf hf rfl
  obtain ⟨x4, g, rfl, q4, hg⟩ := alk_one hd rfl
  obtain ⟨x5, rfl, q5⟩ := alk_leaf hg rfl
  have hF : (Qt.mk x0 [Qt.mk x1 [Qt.mk x2 [], Qt.mk x3 []], Qt.mk x4 [Qt.mk x5 []]]).flat = [x0, x1, x2, x3, x4, x5] := by
    rw [Qt.flat2, Qt.flat2, Qt.flat0, Qt.flat0, Qt.flat1, Qt.flat0]; rfl
  have k0 : x0.kind = 3 := q0.kind
  have k1 : x1.kind = 2 := q1.kind
  have k2 : x2.kind = 1 := q2.kind
  have k3 : x3.kind = 1 := q3.kind
  have k4 : x4.kind = 4 := q4.kind
  have k5 : x5.kind = 1 := q5.kind
  have l2 : x2.p.length = 1 := sml_len q2.p
  have l3 : x3.p.length = 1 := sml_len q3.p
  have l5 : x5.p.length = 2 := sml_len q5.p
  have hok : (Qt.mk x0 [Qt.mk x1 [Qt.mk x2 [], Qt.mk x3 []], Qt.mk x4 [Qt.mk x5 []]]).ok := by
    rw [Qt.ok2, Qt.ok2, Qt.ok0, Qt.ok0, Qt.ok1, Qt.ok0]
    exact ⟨.inr k0, ⟨.inl k1, k2, k3⟩, .inl k4, k5⟩
  have hno : qdep [x1, x2, x3, x4, x5] = 0 := by
    unfold qdep
    simp [unf, k1, k2, k3]
  refine ⟨_, hp, ⟨by rw [hF]; rfl, by rw [qpt_tree hok hrg2, htx], hrg2, ?_, ?_, ?_, ?_, ?_, hsq⟩⟩
  · rw [qdep_flat _ hok, Qt.dep2, Qt.dep2, Qt.dep0, Qt.dep0, Qt.dep1, Qt.dep0]; rfl
  · rw [hF]; unfold Cls.lng; simp [k0, k1, k2, k3, k4, k5, l2, l3, l5]
  · rw [hF]; unfold Cls.lvs; simp [k0, k1, k2, k3, k4, k5]
  · rw [hF]
    show qrg [x1, x2, x3, x4, x5] = false
    unfold qrg
    rw [hno, decide_eq_false (fun h => by omega), Bool.and_false]
  · rw [hF]
    show qdep [x0, x1, x2, x3, x4] = 0
    unfold qdep
    simp [unf, k0, k1, k2, k3, k4]

theorem lf_ext {w : World} {ao : Option Addr} {n : Nat} {P Q : Nat → Nat → Bool} (h : Lf w ao n P) (e : ∀ t, t < n → P t = Q t) : Lf w ao n Q :=
  ⟨h.small, fun hn => by
    obtain ⟨b, o, e1, hlt, hc⟩ := h.lies hn
    exact ⟨b, o, e1, hlt, fun t ht k hk => by rw [← e t ht]; exact hc t ht k hk⟩⟩

theorem tx_pby (L : List Nat) (s : ByteArray) (hs : s.size = L.length) (hb : ∀ t, (h : t < L.length) → byt s t = L[t]) : ∀ t, t < L.length → tx s t = at' (pby L) t := fun t ht => by
  funext x
  have hl : t < (pby L).length := by unfold pby; rw [List.length_map]; exact ht
  have e : (pby L)[t] = rg L[t] (L[t] + 1) := by simp [pby]
  rw [tx_byt s t (by omega), hb t ht, at_get hl, e, rg_at]

/-- A literal row of nodes. -/
theorem qr_lit (w : World) (W : List Qv) (A : Array Value) (hA : A.toList = qkc W) (X : TypeId) (hok : ∀ x ∈ W, x.ok w) (hs : W.length ≤ 4398046511104) : QR (w.alloc (.cells A X)) (some ⟨w.heap.size, 0, none⟩) W := by
  have hb : (w.alloc (.cells A X)).heap[w.heap.size]? = some (.cells A X) := World.alloc_heap_new w _
  refine ⟨hs, fun hn => ⟨w.heap.size, 0, rfl, by rw [al_size]; omega, fun t ht => ?_⟩, fun x hx => (hok x hx).grow (al_below _ _)⟩
  have e : ∀ k, k < 4 → (w.alloc (.cells A X)).cell? ⟨w.heap.size, 0 + t * 4 + k, none⟩ = (W[t]).four[k]? := fun k hk => by
    unfold World.cell?
    rw [hb, Nat.zero_add, ← qkc_at W t k ht hk, ← hA]
    simp
  exact ⟨e 0 (by omega), e 1 (by omega), e 2 (by omega), e 3 (by omega)⟩

theorem QR.take {w : World} {so : Option Addr} {L : List Qv} (h : QR w so L) (k : Nat) : QR w so (L.take k) :=
  ⟨Nat.le_trans (List.length_take_le' k L) h.small, fun hn => by
    rw [List.length_take] at hn
    obtain ⟨b, o, e, hb, hC⟩ := h.lies (by omega)
    exact ⟨b, o, e, hb, fun t ht => by
      rw [List.length_take] at ht
      have := hC t (by omega)
      rw [List.getElem_take]
      exact this⟩, fun x hx => h.ok x (List.mem_of_mem_take hx)⟩

end Cls

end Go.Proofs.YtbnnobeahliffaaGreatDoor

set_option linter.unusedVariables false
namespace Go.Proofs.YtbnnobeahliffaaGreatDoor
open Go.RowKit
namespace Cls

theorem bytA : ∀ t, (h : t < ([97] : List Nat).length) → byt ⟨#[97]⟩ t = ([97] : List Nat)[t]
  | 0, _ => rfl
  | t + 1, h => absurd h (by simp)

theorem bytB : ∀ t, (h : t < ([98] : List Nat).length) → byt ⟨#[98]⟩ t = ([98] : List Nat)[t]
  | 0, _ => rfl
  | t + 1, h => absurd h (by simp)

theorem bytC : ∀ t, (h : t < ([99, 100] : List Nat).length) → byt ⟨#[99, 100]⟩ t = ([99, 100] : List Nat)[t]
  | 0, _ => rfl
  | 1, _ => rfl
  | t + 2, h => absurd h (by simp)

set_option maxRecDepth 100000 in
set_option maxHeartbeats 4000000 in
theorem alive14_any (w : World) (hB : TabB w) (hX : TabX w) :
    Calls Tryz.prog 5 #[] w fun e w' => e = .returned (.bool true) ∧ Below w.heap.size w w' := by
  obtain ⟨l, hpl, hal⟩ := alv_of
  have CP1 : Hid (Calls Tryz.prog 6 #[.string ⟨#[34, 97, 34, 32, 38, 32, 34, 98, 34, 32, 124, 32, 33, 34, 99, 100, 34, 126, 49]⟩] w fun e w' => (∃ vo vc, e = .returned (.tuple #[.slice vo 6 vc, .int .i64 19, .int .i64 0]) ∧ 6 ≤ vc ∧ vc ≤ 9223372036854775807 ∧ ∃ g, vo = some ⟨g, 0, none⟩ ∧ ∃ R : List Qv, R.length = 6 ∧ QR w' vo R ∧ qis R = l) ∧ Below w.heap.size w w') := by
    refine Calls.mono (qparse_any ⟨#[34, 97, 34, 32, 38, 32, 34, 98, 34, 32, 124, 32, 33, 34, 99, 100, 34, 126, 49]⟩ (by decide) w) ?_
    rintro e w' ⟨⟨vo, m, vc, he, R, hm, ho, hq⟩, hb⟩
    rw [show (⟨#[34, 97, 34, 32, 38, 32, 34, 98, 34, 32, 124, 32, 33, 34, 99, 100, 34, 126, 49]⟩ : ByteArray) = tbs [34, 97, 34, 32, 38, 32, 34, 98, 34, 32, 124, 32, 33, 34, 99, 100, 34, 126, 49] from rfl, hpl] at he hq
    have hm6 : m = 6 := by rw [← hm, ← qis_len, hq]; exact hal.len
    subst hm6
    obtain ⟨h1, h2, g, hg⟩ := ho.room hm (by omega)
    exact ⟨⟨vo, vc, he, h1, h2, g, hg, R, hm, ho.qr hm (by omega), hq⟩, hb⟩
  have CP2 : Hid (∀ v : World, Calls Tryz.prog 6 #[.string ⟨#[34, 97, 34, 32, 34, 98, 34]⟩] v fun e w' => (∃ vo m vc, e = .returned (.tuple #[.slice vo m vc, .int .i64 4, .int .i64 140])) ∧ Below v.heap.size v w') := fun v => by
    refine Calls.mono (qparse_any ⟨#[34, 97, 34, 32, 34, 98, 34]⟩ (by decide) v) ?_
    rintro e w' ⟨⟨vo, m, vc, he, _⟩, hb⟩
    rw [show (⟨#[34, 97, 34, 32, 34, 98, 34]⟩ : ByteArray) = tbs [34, 97, 34, 32, 34, 98, 34] from rfl, two_par] at he
    exact ⟨⟨vo, m, vc, he⟩, hb⟩
  have HB : Hid (∀ v : World, Below w.heap.size w v → TabB v ∧ TabX v) := fun v hv => ⟨hB.grow hv, hX.grow hv⟩
  have HAL : Hid (Alq4 l) := hal
  have CT : Hid (∀ (s : ByteArray) (K : Int) (L : List Nat) (v : World), s.size = L.length → L.length ≤ 1000 → (∀ t, (h : t < L.length) → byt s t = L[t]) → Calls Tryz.prog 13 #[.string s, .int .i64 K] v fun e w' => (∃ bo d, e = .returned (.agg #[.slice bo (pby L).length d, .int .i64 K]) ∧ Lf w' bo (pby L).length (at' (pby L))) ∧ Below v.heap.size v w') := fun s K L v hs h9 hb => by
    have hpl : (pby L).length = L.length := by simp [pby]
    refine Calls.mono (text_any s K v (by omega)) ?_
    rintro e w' ⟨⟨bo, d, he, hl⟩, hb2⟩
    rw [hs] at he hl
    exact ⟨⟨bo, d, by rw [hpl]; exact he, by rw [hpl]; exact lf_ext hl (tx_pby L s hs hb)⟩, hb2⟩
  have CTA : Hid (∀ v : World, Calls Tryz.prog 13 #[.string ⟨#[97]⟩, .int .i64 0] v fun e w' => (∃ bo d, e = .returned (.agg #[.slice bo 1 d, .int .i64 0]) ∧ Lf w' bo (pby [97]).length (at' (pby [97]))) ∧ Below v.heap.size v w') := fun v =>
    CT.out ⟨#[97]⟩ 0 [97] v rfl (by decide) bytA
  have CTB : Hid (∀ v : World, Calls Tryz.prog 13 #[.string ⟨#[98]⟩, .int .i64 0] v fun e w' => (∃ bo d, e = .returned (.agg #[.slice bo 1 d, .int .i64 0]) ∧ Lf w' bo (pby [98]).length (at' (pby [98]))) ∧ Below v.heap.size v w') := fun v =>
    CT.out ⟨#[98]⟩ 0 [98] v rfl (by decide) bytB
  have CTC : Hid (∀ v : World, Calls Tryz.prog 13 #[.string ⟨#[99, 100]⟩, .int .i64 1] v fun e w' => (∃ bo d, e = .returned (.agg #[.slice bo 2 d, .int .i64 1]) ∧ Lf w' bo (pby [99, 100]).length (at' (pby [99, 100]))) ∧ Below v.heap.size v w') := fun v =>
    CT.out ⟨#[99, 100]⟩ 1 [99, 100] v rfl (by decide) bytC
  clear hal hpl hB hX CT
  go_enter Tryz.func5, Tryz.ntmps5
  go_wp2_with fail
  refine Calls.mono CP1.out ?_; rintro e w1 ⟨⟨vo, vc, rfl, hv1, hv2, g, rfl, R, hR, hQR, hqi⟩, b1⟩
  have B1 : Hid (Below w.heap.size w w1) := b1
  have Q1 : Hid (QR w1 (some ⟨g, 0, none⟩) R) := hQR
  have HR : Hid (R.length = 6 ∧ qis R = l) := ⟨hR, hqi⟩
  clear b1 hQR hR hqi CP1
  go_wp2_with fail
  refine Calls.mono (CP2.out w1) ?_; rintro e w2 ⟨⟨uo, m2, uc, rfl⟩, b2⟩
  have B2 : Hid (Below w.heap.size w w2) := bgrow' B1.out b2
  have Q2 : Hid (QR w2 (some ⟨g, 0, none⟩) R) := Q1.out.grow b2
  clear b2 CP2 B1 Q1
  have CP3 : Hid (Calls Tryz.prog 11 #[.slice (some ⟨g, 0, none⟩) 6 vc] w2 fun e w' => e = .returned (.tuple #[.string ⟨#[34, 97, 34, 32, 38, 32, 34, 98, 34, 32, 124, 32, 33, 34, 99, 100, 34, 126, 49]⟩, .bool true]) ∧ Below w2.heap.size w2 w') := by
    have h := qprint_any 6 vc _ R HR.out.1 hv1 hv2 w2 Q2.out (HB.out _ B2.out).1 (HB.out _ B2.out).2
    rw [HR.out.2, HAL.out.txt] at h
    exact h
  go_wp2_with fail
  refine Calls.mono CP3.out ?_; rintro e w3 ⟨rfl, b3⟩
  have B3 : Hid (Below w.heap.size w w3) := bgrow' B2.out b3
  have Q3 : Hid (QR w3 (some ⟨g, 0, none⟩) R) := Q2.out.grow b3
  clear b3 CP3 B2 Q2
  have CP4 : Hid (Calls Tryz.prog 11 #[.slice none 0 0] w3 fun e w' => e = .returned (.tuple #[.string (tbs []), .bool false]) ∧ Below w3.heap.size w3 w') := by
    have h := qprint_any 0 0 none [] rfl (Nat.le_refl _) (by omega) w3 ⟨by simp, fun h => by simp at h, fun x hx => by cases hx⟩ (HB.out _ B3.out).1 (HB.out _ B3.out).2
    rw [show qpt (qis []) = none by unfold qpt; rw [show qis [] = [] from rfl, qrg_nil]; rfl] at h
    exact h
  go_wp2_with fail
  refine Calls.mono CP4.out ?_; rintro e w4 ⟨rfl, b4⟩
  have B4 : Hid (Below w.heap.size w w4) := bgrow' B3.out b4
  have Q4 : Hid (QR w4 (some ⟨g, 0, none⟩) R) := Q3.out.grow b4
  clear b4 CP4 B3 Q3
  go_wp2_with fail
  refine Calls.mono (CTA.out w4) ?_; rintro e w5 ⟨⟨ba, da, rfl, hla⟩, b5⟩
  have B5 : Hid (Below w.heap.size w w5) := bgrow' B4.out b5
  have Q5 : Hid (QR w5 (some ⟨g, 0, none⟩) R) := Q4.out.grow b5
  have LA5 : Hid (Lf w5 ba (pby [97]).length (at' (pby [97]))) := hla
  clear b5 CTA B4 Q4 hla
  go_wp2_with fail
  refine Calls.mono (CTB.out w5) ?_; rintro e w6 ⟨⟨bb, db, rfl, hlb⟩, b6⟩
  have B6 : Hid (Below w.heap.size w w6) := bgrow' B5.out b6
  have Q6 : Hid (QR w6 (some ⟨g, 0, none⟩) R) := Q5.out.grow b6
  have LA6 : Hid (Lf w6 ba (pby [97]).length (at' (pby [97]))) := LA5.out.grow b6
  have LB6 : Hid (Lf w6 bb (pby [98]).length (at' (pby [98]))) := hlb
  clear b6 CTB B5 Q5 hlb LA5
  go_wp2_with fail
  refine Calls.mono (CTC.out w6) ?_; rintro e w7 ⟨⟨bc, dc, rfl, hlc⟩, b7⟩
  have B7 : Hid (Below w.heap.size w w7) := bgrow' B6.out b7
  have Q7 : Hid (QR w7 (some ⟨g, 0, none⟩) R) := Q6.out.grow b7
  have LA7 : Hid (Lf w7 ba (pby [97]).length (at' (pby [97]))) := LA6.out.grow b7
  have LB7 : Hid (Lf w7 bb (pby [98]).length (at' (pby [98]))) := LB6.out.grow b7
  have LC7 : Hid (Lf w7 bc (pby [99, 100]).length (at' (pby [99, 100]))) := hlc
  clear b7 CTC B6 Q6 hlc LA6 LB6
  obtain ⟨w8, e8⟩ : ∃ w8, w8 = w7.alloc (.cells #[.int .i64 3, .int .i64 0, .slice none 0 0, .int .i64 0, .int .i64 2, .int .i64 0, .slice none 0 0, .int .i64 0, .int .i64 1, .int .i64 0, .slice ba 1 da, .int .i64 0, .int .i64 1, .int .i64 0, .slice bb 1 db, .int .i64 0, .int .i64 4, .int .i64 0, .slice none 0 0, .int .i64 0, .int .i64 1, .int .i64 0, .slice bc 2 dc, .int .i64 1] 36) := ⟨_, rfl⟩
  have W8 : Hid (QR w8 (some ⟨w7.heap.size, 0, none⟩) [⟨⟨3, 0, [], 0⟩, none, 0⟩, ⟨⟨2, 0, [], 0⟩, none, 0⟩, ⟨⟨1, 0, pby [97], 0⟩, ba, da⟩, ⟨⟨1, 0, pby [98], 0⟩, bb, db⟩, ⟨⟨4, 0, [], 0⟩, none, 0⟩, ⟨⟨1, 0, pby [99, 100], 1⟩, bc, dc⟩]) := by
    show QR _ _ _
    rw [e8]
    refine qr_lit w7 _ _ ?_ _ (fun x hx => ?_) ?_
    · rfl
    rotate_left
    · simp
    simp only [List.mem_cons, List.not_mem_nil, or_false] at hx
    rcases hx with rfl | rfl | rfl | rfl | rfl | rfl
    · exact lf_none _ _
    · exact lf_none _ _
    · exact LA7.out
    · exact LB7.out
    · exact lf_none _ _
    · exact LC7.out
  have b8 : Below w7.heap.size w7 w8 := by rw [e8]; exact al_below _ _
  have B8 : Hid (Below w.heap.size w w8) := bgrow' B7.out b8
  have Q8 : Hid (QR w8 (some ⟨g, 0, none⟩) R) := Q7.out.grow b8
  have E8 : Hid _ := e8
  have CS : Hid (Calls Tryz.prog 14 #[.slice (some ⟨g, 0, none⟩) 6 vc, .slice (some ⟨w7.heap.size, 0, none⟩) 6 6] w8 fun e w' => e = .returned (.bool true) ∧ Below w8.heap.size w8 w') := by
    have h := qsame_any 6 6 vc 6 _ _ R _ w8 HR.out.1 rfl Q8.out W8.out
    rw [HR.out.2, show qis [⟨⟨3, 0, [], 0⟩, none, 0⟩, ⟨⟨2, 0, [], 0⟩, none, 0⟩, ⟨⟨1, 0, pby [97], 0⟩, ba, da⟩, ⟨⟨1, 0, pby [98], 0⟩, bb, db⟩, ⟨⟨4, 0, [], 0⟩, none, 0⟩, ⟨⟨1, 0, pby [99, 100], 1⟩, bc, dc⟩] = alw from rfl, HAL.out.same] at h
    exact h
  clear b8 e8 B7 Q7 LA7 LB7 LC7 W8
  go_wp2_with (first | rw [← E8.out])
  refine Calls.mono CS.out ?_; rintro e w9 ⟨rfl, b9⟩
  have B9 : Hid (Below w.heap.size w w9) := bgrow' B8.out b9
  have Q9 : Hid (QR w9 (some ⟨g, 0, none⟩) R) := Q8.out.grow b9
  clear b9 CS E8 B8 Q8
  have CR : Hid (Calls Tryz.prog 9 #[.slice (some ⟨g, 0, none⟩) 6 vc] w9 fun e w' => e = .returned (.bool true) ∧ Below w9.heap.size w9 w') := by
    have h := qright_any 6 vc _ R HR.out.1 w9 Q9.out
    rw [HR.out.2, HAL.out.rgt] at h
    exact h
  go_wp2_with fail
  refine Calls.mono CR.out ?_; rintro e w10 ⟨rfl, b10⟩
  have B10 : Hid (Below w.heap.size w w10) := bgrow' B9.out b10
  have Q10 : Hid (QR w10 (some ⟨g, 0, none⟩) R) := Q9.out.grow b10
  clear b10 CR B9 Q9
  have CD : Hid (Calls Tryz.prog 15 #[.slice (some ⟨g, 0, none⟩) 6 vc] w10 fun e w' => e = .returned (.int .i64 3) ∧ Below w10.heap.size w10 w') := by
    have h := qdepth_any 6 vc _ R HR.out.1 (by omega) w10 Q10.out
    rw [HR.out.2, HAL.out.dep] at h
    exact h
  go_wp2_with fail
  refine Calls.mono CD.out ?_; rintro e w11 ⟨rfl, b11⟩
  have B11 : Hid (Below w.heap.size w w11) := bgrow' B10.out b11
  have Q11 : Hid (QR w11 (some ⟨g, 0, none⟩) R) := Q10.out.grow b11
  clear b11 CD B10 Q10
  have CG : Hid (Calls Tryz.prog 16 #[.slice (some ⟨g, 0, none⟩) 6 vc] w11 fun e w' => e = .returned (.int .i64 2) ∧ Below w11.heap.size w11 w') := by
    have h := qlongest_any 6 vc _ R HR.out.1 w11 Q11.out
    rw [HR.out.2, HAL.out.lng] at h
    exact h
  go_wp2_with fail
  refine Calls.mono CG.out ?_; rintro e w12 ⟨rfl, b12⟩
  have B12 : Hid (Below w.heap.size w w12) := bgrow' B11.out b12
  have Q12 : Hid (QR w12 (some ⟨g, 0, none⟩) R) := Q11.out.grow b12
  clear b12 CG B11 Q11
  have CL : Hid (Calls Tryz.prog 17 #[.slice (some ⟨g, 0, none⟩) 6 vc] w12 fun e w' => (∃ lo lc, e = .returned (.slice lo 3 lc)) ∧ Below w12.heap.size w12 w') := by
    refine Calls.mono (qleaves_any 6 vc _ R HR.out.1 (by omega) w12 Q12.out) ?_
    rintro e w' ⟨⟨v, rfl, hv⟩, hb⟩
    obtain ⟨M, hM, hMi⟩ := hv.ex
    have hl : M.length = 3 := by
      have := congrArg List.length hMi
      rw [List.length_map, List.length_map, HR.out.2, HAL.out.lvs] at this
      exact this
    obtain ⟨lo, lc, e, _⟩ := hM.tr (by omega)
    rw [hl] at e
    exact ⟨⟨lo, lc, by rw [e]⟩, hb⟩
  go_wp2_with fail
  refine Calls.mono CL.out ?_; rintro e w13 ⟨⟨lo, lc, rfl⟩, b13⟩
  have B13 : Hid (Below w.heap.size w w13) := bgrow' B12.out b13
  have Q13 : Hid (QR w13 (some ⟨g, 0, none⟩) R) := Q12.out.grow b13
  clear b13 CL B12 Q12
  have CR2 : Hid (Calls Tryz.prog 9 #[.slice (some ⟨g, 4, none⟩) 5 (vc - 1)] w13 fun e w' => e = .returned (.bool false) ∧ Below w13.heap.size w13 w') := by
    have hq := Q13.out.cut 1
    rw [show 0 + 1 * 4 = 4 from rfl] at hq
    have h := qright_any 5 (vc - 1) _ (R.drop 1) (by rw [List.length_drop, HR.out.1]) w13 hq
    rw [show qis (R.drop 1) = (qis R).drop 1 by unfold qis; rw [List.map_drop], HR.out.2, HAL.out.no] at h
    exact h
  have hv3 : ¬ vc = 1 := by omega
  have hv4 : 5 ≤ vc := by omega
  go_wp2_with fail
  refine Calls.mono CR2.out ?_; rintro e w14 ⟨rfl, b14⟩
  have B14 : Hid (Below w.heap.size w w14) := bgrow' B13.out b14
  have Q14 : Hid (QR w14 (some ⟨g, 0, none⟩) R) := Q13.out.grow b14
  clear b14 CR2 B13 Q13
  have CD2 : Hid (Calls Tryz.prog 15 #[.slice (some ⟨g, 0, none⟩) 5 vc] w14 fun e w' => e = .returned (.int .i64 0) ∧ Below w14.heap.size w14 w') := by
    have h := qdepth_any 5 vc _ (R.take 5) (by rw [List.length_take, HR.out.1]; rfl) (by omega) w14 (Q14.out.take 5)
    rw [show qis (R.take 5) = (qis R).take 5 by unfold qis; rw [List.map_take], HR.out.2, HAL.out.nod] at h
    exact h
  go_wp2_with fail
  refine Calls.mono CD2.out ?_; rintro e w15 ⟨rfl, b15⟩
  have B15 : Hid (Below w.heap.size w w15) := bgrow' B14.out b15
  clear b15 CD2 B14 Q14
  go_wp2_with fail
  go_ret
  exact ⟨rfl, B15.out⟩

end Cls

end Go.Proofs.YtbnnobeahliffaaGreatDoor

set_option linter.unusedVariables false
namespace Go.Proofs.YtbnnobeahliffaaGreatDoor
open Go.RowKit
namespace Cls

/-- Both tables. -/
structure T2 (w : World) : Prop where
  b : TabB w
  x : TabX w

theorem T2.grow {v v' : World} (h : T2 v) (b : Below v.heap.size v v') : T2 v' := ⟨h.1.grow b, h.2.grow b⟩

end Cls

end Go.Proofs.YtbnnobeahliffaaGreatDoor
