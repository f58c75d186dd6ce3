/- Contracts of zed.seer, and of the closure that it gives. -/
import Derived.Test.YtgdjllfolfiboaaDoorZdMath
import Derived.Test.YtgdjllfolfiboaaDoorNvA
import Derived.Test.YtgdjllfolfiboaaDoorClsA
namespace Go.Proofs.YtgdjllfolfiboaaDoor
open Go.RowKit
namespace Cls

/-- n bytes of t from i on are those of p from 0 on, and no more. -/
structure Zg (p t : ByteArray) (i n : Nat) : Prop where
  lp : n ≤ p.size
  le : i + n ≤ t.size
  same : ∀ k, k < n → byt p k = byt t (i + k)
  stop : n = p.size ∨ i + n = t.size ∨ byt p n ≠ byt t (i + n)

theorem Zg.zr {s : ByteArray} {i n : Nat} (h : Zg s s i n) : n = zr s i := Zv.eq ⟨h.le, h.same, by
  rcases h.stop with e | e | e
  · exact Or.inl (by have := h.le; omega)
  · exact Or.inl e
  · exact Or.inr e⟩

theorem Zg.std {p t : ByteArray} {i n : Nat} (h : Zg p t i n) : n = p.size ↔ std p t i := by
  constructor
  · intro e
    subst e
    exact ⟨h.le, h.same⟩
  · rintro ⟨h1, h2⟩
    rcases h.stop with e | e | e
    · exact e
    · have := h.lp; omega
    · rcases Nat.lt_or_ge n p.size with hl | hl
      · exact absurd (h2 n hl) e
      · have := h.lp; omega

/-- What was seen: the bytes of t from st to en are those of p from 0 on. -/
structure Sn (p t : ByteArray) (st en : Nat) : Prop where
  le : st ≤ en
  ent : en ≤ t.size
  enp : en ≤ st + p.size
  same : ∀ k, st + k < en → byt p k = byt t (st + k)

theorem Sn.zero (p t : ByteArray) : Sn p t 0 0 := ⟨Nat.le_refl _, Nat.zero_le _, Nat.zero_le _, fun k h => by omega⟩

/-- On the way: so many bytes are the same. -/
structure Zp (p t : ByteArray) (i n : Nat) : Prop where
  lp : n ≤ p.size
  le : i + n ≤ t.size
  same : ∀ k, k < n → byt p k = byt t (i + k)

theorem Zp.zero {p t : ByteArray} {i : Nat} (h : i ≤ t.size) : Zp p t i 0 := ⟨Nat.zero_le _, h, fun k hk => by omega⟩

theorem Zp.more {p t : ByteArray} {i n : Nat} (h : Zp p t i n) (h1 : n < p.size) (h2 : i + n < t.size) (e : byt p n = byt t (i + n)) : Zp p t i (n + 1) := ⟨h1, by omega, fun k hk => by
  by_cases ek : k = n
  · subst ek; exact e
  · exact h.same k (by omega)⟩

theorem Zp.sn {p t : ByteArray} {i n : Nat} (h : Zp p t i n) : Sn p t i (i + n) := ⟨by omega, h.le, by have := h.lp; omega, fun k hk => h.same k (by omega)⟩

theorem Sn.copy {p t : ByteArray} {st en i : Nat} (h : Sn p t st en) (h1 : st ≤ i) (h2 : i < en) {x : Nat} (hx : x ≤ zr p (i - st)) (hx2 : x ≤ en - i) : Zp p t i x := by
  have hz := zr_spec p (i - st) (by have := h.enp; omega)
  refine ⟨by have := hz.le; omega, by have := h.ent; omega, fun k hk => ?_⟩
  rw [hz.same k (by omega), h.same (i - st + k) (by omega)]
  congr 1
  omega

/-- The boxes of the closure. -/
structure Eye (w : World) (be br bs bp bt : Nat) (p t : ByteArray) (rv : Value) (st en : Nat) : Prop where
  ce : w.cell? ⟨be, 0, none⟩ = some (.int .i64 (en : Int))
  cr : w.cell? ⟨br, 0, none⟩ = some rv
  cs : w.cell? ⟨bs, 0, none⟩ = some (.int .i64 (st : Int))
  cp : w.cell? ⟨bp, 0, none⟩ = some (.string p)
  ct : w.cell? ⟨bt, 0, none⟩ = some (.string t)
  fe : w.frozen? ⟨be, 0, none⟩ = false
  fs : w.frozen? ⟨bs, 0, none⟩ = false
  d : be ≠ bs ∧ be ≠ br ∧ be ≠ bp ∧ be ≠ bt ∧ bs ≠ br ∧ bs ≠ bp ∧ bs ≠ bt
  sn : Sn p t st en

theorem Eye.wrote {S : Nat → Nat → Prop} {w w' : World} {be br bs bp bt : Nat} {p t : ByteArray} {rv : Value} {st en : Nat} (h : Eye w be br bs bp bt p t rv st en) (k : Wrote S w w') (hS : ∀ b o, S b o → b ≠ be ∧ b ≠ br ∧ b ≠ bs ∧ b ≠ bp ∧ b ≠ bt) : Eye w' be br bs bp bt p t rv st en :=
  ⟨(k.cell _ _ (fun e => (hS _ _ e).1 rfl)).trans h.ce, (k.cell _ _ (fun e => (hS _ _ e).2.1 rfl)).trans h.cr, (k.cell _ _ (fun e => (hS _ _ e).2.2.1 rfl)).trans h.cs, (k.cell _ _ (fun e => (hS _ _ e).2.2.2.1 rfl)).trans h.cp, (k.cell _ _ (fun e => (hS _ _ e).2.2.2.2 rfl)).trans h.ct, (k.frozen _ _).trans h.fe, (k.frozen _ _).trans h.fs, h.d, h.sn⟩

theorem Eye.same {w w' : World} {be br bs bp bt : Nat} {p t : ByteArray} {rv : Value} {st en : Nat} (h : Eye w be br bs bp bt p t rv st en) (k : Wrote (fun _ _ => False) w w') : Eye w' be br bs bp bt p t rv st en := h.wrote k (fun _ _ e => e.elim)

theorem Eye.lts {w : World} {be br bs bp bt : Nat} {p t : ByteArray} {rv : Value} {st en : Nat} (h : Eye w be br bs bp bt p t rv st en) : be < w.heap.size ∧ br < w.heap.size ∧ bs < w.heap.size ∧ bp < w.heap.size ∧ bt < w.heap.size :=
  ⟨World.block_lt_of_cell? w _ h.ce, World.block_lt_of_cell? w _ h.cr, World.block_lt_of_cell? w _ h.cs, World.block_lt_of_cell? w _ h.cp, World.block_lt_of_cell? w _ h.ct⟩

theorem Eye.put {w : World} {be br bs bp bt : Nat} {p t : ByteArray} {rv : Value} {st en i x : Nat} (h : Eye w be br bs bp bt p t rv st en) (hs : Sn p t i x) :
    Eye ((w.setCell ⟨bs, 0, none⟩ (.int .i64 (i : Int))).setCell ⟨be, 0, none⟩ (.int .i64 (x : Int))) be br bs bp bt p t rv i x := by
  obtain ⟨d1, d2, d3, d4, d5, d6, d7⟩ := h.d
  refine ⟨?_, ?_, ?_, ?_, ?_, ?_, ?_, h.d, hs⟩
  · exact World.cell?_setCell_same _ _ _ (by rw [cell_setCell_ne _ _ _ _ _ _ (Or.inl d1)]; exact h.ce)
  · rw [cell_setCell_ne _ _ _ _ _ _ (Or.inl (Ne.symm d2)), cell_setCell_ne _ _ _ _ _ _ (Or.inl (Ne.symm d5))]; exact h.cr
  · rw [cell_setCell_ne _ _ _ _ _ _ (Or.inl (Ne.symm d1))]; exact World.cell?_setCell_same _ _ _ h.cs
  · rw [cell_setCell_ne _ _ _ _ _ _ (Or.inl (Ne.symm d3)), cell_setCell_ne _ _ _ _ _ _ (Or.inl (Ne.symm d6))]; exact h.cp
  · rw [cell_setCell_ne _ _ _ _ _ _ (Or.inl (Ne.symm d4)), cell_setCell_ne _ _ _ _ _ _ (Or.inl (Ne.symm d7))]; exact h.ct
  · rw [frozen_setCell, frozen_setCell]; exact h.fe
  · rw [frozen_setCell, frozen_setCell]; exact h.fs

def two (bs be : Nat) : Nat → Nat → Prop := fun b _ => b = bs ∨ b = be

/-- What the closure tells. -/
def Saw (w : World) (be br bs bp bt : Nat) (p t : ByteArray) (rv : Value) (st en i : Nat) (e : Ending) (w' : World) : Prop :=
  ∃ m st' en', Zg p t i m ∧ e = .returned (.int .i64 ((m : Nat) : Int)) ∧ Eye w' be br bs bp bt p t rv st' en' ∧ (st' = st ∧ en' = en ∨ st' = i) ∧ Wrote (two bs be) w w'

set_option maxHeartbeats 2000000 in
theorem see_any (p t : ByteArray) (hp : p.size ≤ 1000000) (ht : t.size ≤ 1000000) (i st en n cap rb be br bs bp bt : Nat) (w : World) (hi : i ≤ t.size) (hsi : st ≤ i) (hy : Eye w be br bs bp bt p t (.slice (some ⟨rb, 0, none⟩) n cap) st en) (hn : p.size ≤ n) (hn2 : n ≤ 1000000) (hr : i < en → w.cell? ⟨rb, i - st, none⟩ = some (.int .i64 ((zr p (i - st) : Nat) : Int))) :
    Calls Tryd.prog 29 #[.int .i64 i, .pointer (some ⟨be, 0, none⟩), .pointer (some ⟨br, 0, none⟩), .pointer (some ⟨bs, 0, none⟩), .pointer (some ⟨bp, 0, none⟩), .pointer (some ⟨bt, 0, none⟩)] w (Saw w be br bs bp bt p t (.slice (some ⟨rb, 0, none⟩) n cap) st en i) := by
  have HY : Hid _ := hy
  have hen := hy.sn.ent
  have ce := hy.ce
  have cr := hy.cr
  have cs := hy.cs
  obtain ⟨d1, d2, d3, d4, d5, d6, d7⟩ := hy.d
  have hall : (¬ i < en) ∨ (i < en ∧ zr p (i - st) ≤ en - i) ∨ (i < en ∧ ¬ zr p (i - st) ≤ en - i) := by omega
  rcases hall with h | ⟨h, h2⟩ | ⟨h, h2⟩
  · have hI : ¬ (i : Int) < (en : Int) := by omega
    have HS : Hid (Zp p t i 0) := Zp.zero hi
    have HW : Hid (Wrote (fun _ _ => False) w w) := Wrote.refl _ _
    clear hr h hy
    go_enter Tryd.func29, Tryd.ntmps29
    go_wp2_with fail
    go_loopw [8] (fun vx wr => Wrote (fun _ _ => False) w wr ∧ ∃ x : Nat, vx = .int .i64 x ∧ Zp p t i x) (fun vx _ => t.size - (intOf vx).toNat)
    case atStart => exact ⟨HW.out, 0, rfl, HS.out⟩
    case round =>
      clear HS HW
      obtain ⟨hwr, x, rfl, hzp⟩ := hrel
      have HWr : Hid _ := hwr
      have HZ : Hid _ := hzp
      have HYr : Hid _ := HY.out.same hwr
      have ce' := HYr.out.ce
      have cp' := HYr.out.cp
      have ct' := HYr.out.ct
      have h1 := hzp.lp
      have h2' := hzp.le
      clear hwr hzp
      obtain ⟨z, hz⟩ : ∃ z, i + x = z := ⟨_, rfl⟩
      have hzI : (i : Int) + (x : Int) = (z : Int) := by omega
      have hwz : IntKind.i64.wrap ((i : Int) + (x : Int)) = (z : Int) := by rw [hzI, IntKind.wrap_i64]; omega
      by_cases hgo : x < p.size ∧ z < t.size ∧ byt p x = byt t z
      · obtain ⟨g1, g2, g3⟩ := hgo
        have k1 : (x : Int) < (p.size : Int) := by omega
        have k2 : (z : Int) < (t.size : Int) := by omega
        have ix := idx_str p x g1
        have iz := idx_str t z g2
        have HM : Hid (Zp p t i (x + 1)) := HZ.out.more g1 (by omega) (by rw [hz]; exact g3)
        have HWd : Hid (∀ q, Wrote (fun _ _ => False) w (wr.drewN q)) := fun q => HWr.out.drewN q
        rw [g3] at ix
        have hb := byt_lt t z
        clear g3
        go_wp2_with fail
        go_quiet (fail)
        go_wp2_with fail
        go_roundw
        case rel => exact ⟨HWd.out _, x + 1, by go_num, HM.out⟩
        case measure => simp [intOf]; omega
      · have HE : Hid (Zg p t i x) := ⟨HZ.out.lp, HZ.out.le, HZ.out.same, by
          rw [hz]
          by_cases e1 : x < p.size
          · by_cases e2 : z < t.size
            · exact Or.inr (Or.inr (fun e3 => hgo ⟨e1, e2, e3⟩))
            · exact Or.inr (Or.inl (by omega))
          · exact Or.inl (by omega)⟩
        have HEnd : Hid (∀ q, (z ≤ en → Saw w be br bs bp bt p t (.slice (some ⟨rb, 0, none⟩) n cap) st en i (.returned (.int .i64 (x : Int))) (wr.drewN q)) ∧ (¬ z ≤ en → Saw w be br bs bp bt p t (.slice (some ⟨rb, 0, none⟩) n cap) st en i (.returned (.int .i64 (x : Int))) (((wr.drewN q).setCell ⟨bs, 0, none⟩ (.int .i64 (i : Int))).setCell ⟨be, 0, none⟩ (.int .i64 (z : Int))))) := fun q =>
          ⟨fun _ => ⟨x, st, en, HE.out, rfl, HYr.out.same ((Wrote.refl _ wr).drewN q), Or.inl ⟨rfl, rfl⟩, (HWr.out.drewN q).mono (fun _ _ h => h.elim)⟩,
           fun _ => ⟨x, i, z, HE.out, rfl, Eye.put (HYr.out.same ((Wrote.refl _ wr).drewN q)) (by rw [← hz]; exact HZ.out.sn), Or.inr rfl, (((HWr.out.drewN q).mono (fun _ _ h => h.elim)).setCell (Or.inl rfl) _).setCell (Or.inr rfl) _⟩⟩
        have hcase : (¬ x < p.size) ∨ (x < p.size ∧ ¬ z < t.size) ∨ (x < p.size ∧ z < t.size ∧ byt p x ≠ byt t z) := by
          by_cases e1 : x < p.size
          · by_cases e2 : z < t.size
            · exact Or.inr (Or.inr ⟨e1, e2, fun e3 => hgo ⟨e1, e2, e3⟩⟩)
            · exact Or.inr (Or.inl ⟨e1, e2⟩)
          · exact Or.inl e1
        have fe := HYr.out.fe
        have fs := HYr.out.fs
        have cs' := HYr.out.cs
        have hd1 : ¬ bs = be := fun e => d1 e.symm
        clear hgo hz
        rcases hcase with g1 | ⟨g1, g2⟩ | ⟨g1, g2, g3⟩
        · have k1 : ¬ (x : Int) < (p.size : Int) := by omega
          by_cases hz2 : z ≤ en
          · have hzI2 : ¬ (en : Int) < (z : Int) := by omega
            have HF : Hid _ := fun q => (HEnd.out q).1 hz2
            clear HEnd HZ HYr HE
            go_wp2_with fail
            go_quiet (fail)
            go_wp2_with fail
            go_ret
            exact HF.out _
          · have hzI2 : (en : Int) < (z : Int) := by omega
            have HF : Hid _ := fun q => (HEnd.out q).2 hz2
            clear HEnd HZ HYr HE
            go_wp2_with fail
            go_quiet (fail)
            go_wp2_with fail
            go_ret
            exact HF.out _
        · have k1 : (x : Int) < (p.size : Int) := by omega
          have k2 : ¬ (z : Int) < (t.size : Int) := by omega
          by_cases hz2 : z ≤ en
          · have hzI2 : ¬ (en : Int) < (z : Int) := by omega
            have HF : Hid _ := fun q => (HEnd.out q).1 hz2
            clear HEnd HZ HYr HE
            go_wp2_with fail
            go_quiet (fail)
            go_wp2_with fail
            go_ret
            exact HF.out _
          · have hzI2 : (en : Int) < (z : Int) := by omega
            have HF : Hid _ := fun q => (HEnd.out q).2 hz2
            clear HEnd HZ HYr HE
            go_wp2_with fail
            go_quiet (fail)
            go_wp2_with fail
            go_ret
            exact HF.out _
        · have k1 : (x : Int) < (p.size : Int) := by omega
          have k2 : (z : Int) < (t.size : Int) := by omega
          have ix := idx_str p x g1
          have iz := idx_str t z g2
          have hb := byt_lt t z
          have hb2 := byt_lt p x
          have k3 : ¬ ((byt p x : Nat) : Int) = ((byt t z : Nat) : Int) := by omega
          have k4 : (((byt p x : Nat) : Int) == ((byt t z : Nat) : Int)) = false := by simpa using k3
          clear g3
          by_cases hz2 : z ≤ en
          · have hzI2 : ¬ (en : Int) < (z : Int) := by omega
            have HF : Hid _ := fun q => (HEnd.out q).1 hz2
            clear HEnd HZ HYr HE
            go_wp2_with fail
            go_quiet (fail)
            go_wp2_with fail
            go_ret
            exact HF.out _
          · have hzI2 : (en : Int) < (z : Int) := by omega
            have HF : Hid _ := fun q => (HEnd.out q).2 hz2
            clear HEnd HZ HYr HE
            go_wp2_with fail
            go_quiet (fail)
            go_wp2_with fail
            go_ret
            exact HF.out _
  · have HS : Hid (Zp p t i (zr p (i - st))) := hy.sn.copy hsi h (Nat.le_refl _) h2
    have cq := hr h
    have hqn : i - st < n := by have := hy.sn.enp; omega
    obtain ⟨q, hq⟩ : ∃ q, i - st = q := ⟨_, rfl⟩
    obtain ⟨R, hR⟩ : ∃ R, zr p (i - st) = R := ⟨_, rfl⟩
    obtain ⟨r, hr'⟩ : ∃ r, en - i = r := ⟨_, rfl⟩
    have hI : (i : Int) < (en : Int) := by omega
    have hqI : (i : Int) - (st : Int) = (q : Int) := by omega
    have hrI : (en : Int) - (i : Int) = (r : Int) := by omega
    rw [hR] at cq h2
    rw [hr'] at h2
    rw [hR] at HS
    rw [hq] at cq hqn
    have hmin : (R : Int) ≤ (r : Int) := by omega
    have hr3 : r ≤ 1000000 := by omega
    have HW : Hid (∀ v, v = w.drew ∨ v = w ∨ (∃ q, v = w.drewN q) → Wrote (fun _ _ => False) w v) := by
      rintro v (rfl | rfl | ⟨q, rfl⟩)
      · exact (Wrote.refl _ _).drew
      · exact Wrote.refl _ _
      · exact (Wrote.refl _ _).drewN _
    clear hr h hy hR hq hr' hsi
    go_enter Tryd.func29, Tryd.ntmps29
    go_wp2_with fail
    go_region
    all_goals
      go_wp2_with fail
      go_loopw [8] (fun vx wr => Wrote (fun _ _ => False) w wr ∧ ∃ x : Nat, vx = .int .i64 x ∧ Zp p t i x) (fun vx _ => t.size - (intOf vx).toNat)
      case atStart => exact ⟨HW.out _ (by first | exact Or.inl rfl | exact Or.inr (Or.inl rfl) | exact Or.inr (Or.inr ⟨_, rfl⟩)), R, rfl, HS.out⟩
      case round =>
        clear HS HW
        obtain ⟨hwr, x, rfl, hzp⟩ := hrel
        have HWr : Hid _ := hwr
        have HZ : Hid _ := hzp
        have HYr : Hid _ := HY.out.same hwr
        have ce' := HYr.out.ce
        have cp' := HYr.out.cp
        have ct' := HYr.out.ct
        have h1 := hzp.lp
        have h2' := hzp.le
        clear hwr hzp
        obtain ⟨z, hz⟩ : ∃ z, i + x = z := ⟨_, rfl⟩
        have hzI : (i : Int) + (x : Int) = (z : Int) := by omega
        have hwz : IntKind.i64.wrap ((i : Int) + (x : Int)) = (z : Int) := by rw [hzI, IntKind.wrap_i64]; omega
        by_cases hgo : x < p.size ∧ z < t.size ∧ byt p x = byt t z
        · obtain ⟨g1, g2, g3⟩ := hgo
          have k1 : (x : Int) < (p.size : Int) := by omega
          have k2 : (z : Int) < (t.size : Int) := by omega
          have ix := idx_str p x g1
          have iz := idx_str t z g2
          have HM : Hid (Zp p t i (x + 1)) := HZ.out.more g1 (by omega) (by rw [hz]; exact g3)
          have HWd : Hid (∀ q, Wrote (fun _ _ => False) w (wr.drewN q)) := fun q => HWr.out.drewN q
          rw [g3] at ix
          have hb := byt_lt t z
          clear g3
          go_wp2_with fail
          go_quiet (fail)
          go_wp2_with fail
          go_roundw
          case rel => exact ⟨HWd.out _, x + 1, by go_num, HM.out⟩
          case measure => simp [intOf]; omega
        · have HE : Hid (Zg p t i x) := ⟨HZ.out.lp, HZ.out.le, HZ.out.same, by
            rw [hz]
            by_cases e1 : x < p.size
            · by_cases e2 : z < t.size
              · exact Or.inr (Or.inr (fun e3 => hgo ⟨e1, e2, e3⟩))
              · exact Or.inr (Or.inl (by omega))
            · exact Or.inl (by omega)⟩
          have HEnd : Hid (∀ q, (z ≤ en → Saw w be br bs bp bt p t (.slice (some ⟨rb, 0, none⟩) n cap) st en i (.returned (.int .i64 (x : Int))) (wr.drewN q)) ∧ (¬ z ≤ en → Saw w be br bs bp bt p t (.slice (some ⟨rb, 0, none⟩) n cap) st en i (.returned (.int .i64 (x : Int))) (((wr.drewN q).setCell ⟨bs, 0, none⟩ (.int .i64 (i : Int))).setCell ⟨be, 0, none⟩ (.int .i64 (z : Int))))) := fun q =>
            ⟨fun _ => ⟨x, st, en, HE.out, rfl, HYr.out.same ((Wrote.refl _ wr).drewN q), Or.inl ⟨rfl, rfl⟩, (HWr.out.drewN q).mono (fun _ _ h => h.elim)⟩,
             fun _ => ⟨x, i, z, HE.out, rfl, Eye.put (HYr.out.same ((Wrote.refl _ wr).drewN q)) (by rw [← hz]; exact HZ.out.sn), Or.inr rfl, (((HWr.out.drewN q).mono (fun _ _ h => h.elim)).setCell (Or.inl rfl) _).setCell (Or.inr rfl) _⟩⟩
          have hcase : (¬ x < p.size) ∨ (x < p.size ∧ ¬ z < t.size) ∨ (x < p.size ∧ z < t.size ∧ byt p x ≠ byt t z) := by
            by_cases e1 : x < p.size
            · by_cases e2 : z < t.size
              · exact Or.inr (Or.inr ⟨e1, e2, fun e3 => hgo ⟨e1, e2, e3⟩⟩)
              · exact Or.inr (Or.inl ⟨e1, e2⟩)
            · exact Or.inl e1
          have fe := HYr.out.fe
          have fs := HYr.out.fs
          have cs' := HYr.out.cs
          have hd1 : ¬ bs = be := fun e => d1 e.symm
          clear hgo hz
          rcases hcase with g1 | ⟨g1, g2⟩ | ⟨g1, g2, g3⟩
          · have k1 : ¬ (x : Int) < (p.size : Int) := by omega
            by_cases hz2 : z ≤ en
            · have hzI2 : ¬ (en : Int) < (z : Int) := by omega
              have HF : Hid _ := fun q => (HEnd.out q).1 hz2
              clear HEnd HZ HYr HE
              go_wp2_with fail
              go_quiet (fail)
              go_wp2_with fail
              go_ret
              exact HF.out _
            · have hzI2 : (en : Int) < (z : Int) := by omega
              have HF : Hid _ := fun q => (HEnd.out q).2 hz2
              clear HEnd HZ HYr HE
              go_wp2_with fail
              go_quiet (fail)
              go_wp2_with fail
              go_ret
              exact HF.out _
          · have k1 : (x : Int) < (p.size : Int) := by omega
            have k2 : ¬ (z : Int) < (t.size : Int) := by omega
            by_cases hz2 : z ≤ en
            · have hzI2 : ¬ (en : Int) < (z : Int) := by omega
              have HF : Hid _ := fun q => (HEnd.out q).1 hz2
              clear HEnd HZ HYr HE
              go_wp2_with fail
              go_quiet (fail)
              go_wp2_with fail
              go_ret
              exact HF.out _
            · have hzI2 : (en : Int) < (z : Int) := by omega
              have HF : Hid _ := fun q => (HEnd.out q).2 hz2
              clear HEnd HZ HYr HE
              go_wp2_with fail
              go_quiet (fail)
              go_wp2_with fail
              go_ret
              exact HF.out _
          · have k1 : (x : Int) < (p.size : Int) := by omega
            have k2 : (z : Int) < (t.size : Int) := by omega
            have ix := idx_str p x g1
            have iz := idx_str t z g2
            have hb := byt_lt t z
            have hb2 := byt_lt p x
            have k3 : ¬ ((byt p x : Nat) : Int) = ((byt t z : Nat) : Int) := by omega
            have k4 : (((byt p x : Nat) : Int) == ((byt t z : Nat) : Int)) = false := by simpa using k3
            clear g3
            by_cases hz2 : z ≤ en
            · have hzI2 : ¬ (en : Int) < (z : Int) := by omega
              have HF : Hid _ := fun q => (HEnd.out q).1 hz2
              clear HEnd HZ HYr HE
              go_wp2_with fail
              go_quiet (fail)
              go_wp2_with fail
              go_ret
              exact HF.out _
            · have hzI2 : (en : Int) < (z : Int) := by omega
              have HF : Hid _ := fun q => (HEnd.out q).2 hz2
              clear HEnd HZ HYr HE
              go_wp2_with fail
              go_quiet (fail)
              go_wp2_with fail
              go_ret
              exact HF.out _
  · have HS : Hid (Zp p t i (en - i)) := hy.sn.copy hsi h (by omega) (Nat.le_refl _)
    have cq := hr h
    have hqn : i - st < n := by have := hy.sn.enp; omega
    obtain ⟨q, hq⟩ : ∃ q, i - st = q := ⟨_, rfl⟩
    obtain ⟨R, hR⟩ : ∃ R, zr p (i - st) = R := ⟨_, rfl⟩
    obtain ⟨r, hr'⟩ : ∃ r, en - i = r := ⟨_, rfl⟩
    have hI : (i : Int) < (en : Int) := by omega
    have hqI : (i : Int) - (st : Int) = (q : Int) := by omega
    have hrI : (en : Int) - (i : Int) = (r : Int) := by omega
    rw [hR] at cq h2
    rw [hr'] at h2
    rw [hr'] at HS
    rw [hq] at cq hqn
    have hmin : ¬ (R : Int) ≤ (r : Int) := by omega
    have hr3 : r ≤ 1000000 := by omega
    have HW : Hid (∀ v, v = w.drew ∨ v = w ∨ (∃ q, v = w.drewN q) → Wrote (fun _ _ => False) w v) := by
      rintro v (rfl | rfl | ⟨q, rfl⟩)
      · exact (Wrote.refl _ _).drew
      · exact Wrote.refl _ _
      · exact (Wrote.refl _ _).drewN _
    clear hr h hy hR hq hr' hsi
    go_enter Tryd.func29, Tryd.ntmps29
    go_wp2_with fail
    go_region
    all_goals
      go_wp2_with fail
      go_loopw [8] (fun vx wr => Wrote (fun _ _ => False) w wr ∧ ∃ x : Nat, vx = .int .i64 x ∧ Zp p t i x) (fun vx _ => t.size - (intOf vx).toNat)
      case atStart => exact ⟨HW.out _ (by first | exact Or.inl rfl | exact Or.inr (Or.inl rfl) | exact Or.inr (Or.inr ⟨_, rfl⟩)), r, rfl, HS.out⟩
      case round =>
        clear HS HW
        obtain ⟨hwr, x, rfl, hzp⟩ := hrel
        have HWr : Hid _ := hwr
        have HZ : Hid _ := hzp
        have HYr : Hid _ := HY.out.same hwr
        have ce' := HYr.out.ce
        have cp' := HYr.out.cp
        have ct' := HYr.out.ct
        have h1 := hzp.lp
        have h2' := hzp.le
        clear hwr hzp
        obtain ⟨z, hz⟩ : ∃ z, i + x = z := ⟨_, rfl⟩
        have hzI : (i : Int) + (x : Int) = (z : Int) := by omega
        have hwz : IntKind.i64.wrap ((i : Int) + (x : Int)) = (z : Int) := by rw [hzI, IntKind.wrap_i64]; omega
        by_cases hgo : x < p.size ∧ z < t.size ∧ byt p x = byt t z
        · obtain ⟨g1, g2, g3⟩ := hgo
          have k1 : (x : Int) < (p.size : Int) := by omega
          have k2 : (z : Int) < (t.size : Int) := by omega
          have ix := idx_str p x g1
          have iz := idx_str t z g2
          have HM : Hid (Zp p t i (x + 1)) := HZ.out.more g1 (by omega) (by rw [hz]; exact g3)
          have HWd : Hid (∀ q, Wrote (fun _ _ => False) w (wr.drewN q)) := fun q => HWr.out.drewN q
          rw [g3] at ix
          have hb := byt_lt t z
          clear g3
          go_wp2_with fail
          go_quiet (fail)
          go_wp2_with fail
          go_roundw
          case rel => exact ⟨HWd.out _, x + 1, by go_num, HM.out⟩
          case measure => simp [intOf]; omega
        · have HE : Hid (Zg p t i x) := ⟨HZ.out.lp, HZ.out.le, HZ.out.same, by
            rw [hz]
            by_cases e1 : x < p.size
            · by_cases e2 : z < t.size
              · exact Or.inr (Or.inr (fun e3 => hgo ⟨e1, e2, e3⟩))
              · exact Or.inr (Or.inl (by omega))
            · exact Or.inl (by omega)⟩
          have HEnd : Hid (∀ q, (z ≤ en → Saw w be br bs bp bt p t (.slice (some ⟨rb, 0, none⟩) n cap) st en i (.returned (.int .i64 (x : Int))) (wr.drewN q)) ∧ (¬ z ≤ en → Saw w be br bs bp bt p t (.slice (some ⟨rb, 0, none⟩) n cap) st en i (.returned (.int .i64 (x : Int))) (((wr.drewN q).setCell ⟨bs, 0, none⟩ (.int .i64 (i : Int))).setCell ⟨be, 0, none⟩ (.int .i64 (z : Int))))) := fun q =>
            ⟨fun _ => ⟨x, st, en, HE.out, rfl, HYr.out.same ((Wrote.refl _ wr).drewN q), Or.inl ⟨rfl, rfl⟩, (HWr.out.drewN q).mono (fun _ _ h => h.elim)⟩,
             fun _ => ⟨x, i, z, HE.out, rfl, Eye.put (HYr.out.same ((Wrote.refl _ wr).drewN q)) (by rw [← hz]; exact HZ.out.sn), Or.inr rfl, (((HWr.out.drewN q).mono (fun _ _ h => h.elim)).setCell (Or.inl rfl) _).setCell (Or.inr rfl) _⟩⟩
          have hcase : (¬ x < p.size) ∨ (x < p.size ∧ ¬ z < t.size) ∨ (x < p.size ∧ z < t.size ∧ byt p x ≠ byt t z) := by
            by_cases e1 : x < p.size
            · by_cases e2 : z < t.size
              · exact Or.inr (Or.inr ⟨e1, e2, fun e3 => hgo ⟨e1, e2, e3⟩⟩)
              · exact Or.inr (Or.inl ⟨e1, e2⟩)
            · exact Or.inl e1
          have fe := HYr.out.fe
          have fs := HYr.out.fs
          have cs' := HYr.out.cs
          have hd1 : ¬ bs = be := fun e => d1 e.symm
          clear hgo hz
          rcases hcase with g1 | ⟨g1, g2⟩ | ⟨g1, g2, g3⟩
          · have k1 : ¬ (x : Int) < (p.size : Int) := by omega
            by_cases hz2 : z ≤ en
            · have hzI2 : ¬ (en : Int) < (z : Int) := by omega
              have HF : Hid _ := fun q => (HEnd.out q).1 hz2
              clear HEnd HZ HYr HE
              go_wp2_with fail
              go_quiet (fail)
              go_wp2_with fail
              go_ret
              exact HF.out _
            · have hzI2 : (en : Int) < (z : Int) := by omega
              have HF : Hid _ := fun q => (HEnd.out q).2 hz2
              clear HEnd HZ HYr HE
              go_wp2_with fail
              go_quiet (fail)
              go_wp2_with fail
              go_ret
              exact HF.out _
          · have k1 : (x : Int) < (p.size : Int) := by omega
            have k2 : ¬ (z : Int) < (t.size : Int) := by omega
            by_cases hz2 : z ≤ en
            · have hzI2 : ¬ (en : Int) < (z : Int) := by omega
              have HF : Hid _ := fun q => (HEnd.out q).1 hz2
              clear HEnd HZ HYr HE
              go_wp2_with fail
              go_quiet (fail)
              go_wp2_with fail
              go_ret
              exact HF.out _
            · have hzI2 : (en : Int) < (z : Int) := by omega
              have HF : Hid _ := fun q => (HEnd.out q).2 hz2
              clear HEnd HZ HYr HE
              go_wp2_with fail
              go_quiet (fail)
              go_wp2_with fail
              go_ret
              exact HF.out _
          · have k1 : (x : Int) < (p.size : Int) := by omega
            have k2 : (z : Int) < (t.size : Int) := by omega
            have ix := idx_str p x g1
            have iz := idx_str t z g2
            have hb := byt_lt t z
            have hb2 := byt_lt p x
            have k3 : ¬ ((byt p x : Nat) : Int) = ((byt t z : Nat) : Int) := by omega
            have k4 : (((byt p x : Nat) : Int) == ((byt t z : Nat) : Int)) = false := by simpa using k3
            clear g3
            by_cases hz2 : z ≤ en
            · have hzI2 : ¬ (en : Int) < (z : Int) := by omega
              have HF : Hid _ := fun q => (HEnd.out q).1 hz2
              clear HEnd HZ HYr HE
              go_wp2_with fail
              go_quiet (fail)
              go_wp2_with fail
              go_ret
              exact HF.out _
            · have hzI2 : (en : Int) < (z : Int) := by omega
              have HF : Hid _ := fun q => (HEnd.out q).2 hz2
              clear HEnd HZ HYr HE
              go_wp2_with fail
              go_quiet (fail)
              go_wp2_with fail
              go_ret
              exact HF.out _

end Cls
end Go.Proofs.YtgdjllfolfiboaaDoor
