/- Two texts' leaves in boxes, made in whatever order: for the law LeafSame. Nothing of the program but its types' numbers. -/
import Derived.Test.YtcohcdebbkfdfaaDoorLfLaw
namespace Go.Proofs.YtcohcdebbkfdfaaDoor
open Go.RowKit
namespace Cls

def ab7 : ByteArray := ⟨#[97, 98]⟩

/-- Boxes bx with contents F, rows rw of the text ab: all new since w4, apart. -/
structure Zs (w4 v : World) (bx : List Nat) (F : Nat → Value × Value) (rw : List Nat) : Prop where
  bel : Below w4.heap.size w4 v
  box : ∀ b ∈ bx, (v.cell? ⟨b, 0, none⟩ = some (F b).1 ∧ v.cell? ⟨b, 1, none⟩ = some (F b).2) ∧ Wrt v b 0 2
  row : ∀ g ∈ rw, Cl v g 0 2 (tx ab7) ∧ Wrt v g 0 8
  dis : (bx ++ rw).Nodup
  lo : ∀ x ∈ bx ++ rw, w4.heap.size ≤ x ∧ x < v.heap.size

theorem Zs.nil (w4 : World) (F : Nat → Value × Value) : Zs w4 w4 [] F [] := ⟨Below.refl _ _, by simp, by simp, by simp, by simp⟩

def updF (F : Nat → Value × Value) (b : Nat) (x y : Value) : Nat → Value × Value := fun t => if t = b then (x, y) else F t

theorem Zs.new {w4 v : World} {bx rw : List Nat} {F : Nat → Value × Value} (z : Zs w4 v bx F rw) (x y : Value) : Zs w4 (v.alloc (.cells #[x, y] 24)) (v.heap.size :: bx) (updF F v.heap.size x y) rw := by
  obtain ⟨v', hx⟩ := lbox v x y
  have hfz : Wrt v' v.heap.size 0 2 := by
    intro t _
    rw [hx.eq]
    unfold World.frozen?
    rw [show (v.alloc (.cells #[x, y] 24)).heap[v.heap.size]? = some (.cells #[x, y] 24) by show (v.heap.push _)[v.heap.size]? = _; simp]
    simp
  rw [← hx.eq]
  have hsz := z.bel.size
  refine ⟨z.bel.trans (hx.bel.mono hsz), fun b hb => ?_, fun g hg => ?_, ?_, ?_⟩
  · rcases List.mem_cons.1 hb with rfl | hb
    · refine ⟨⟨?_, ?_⟩, hfz⟩
      · rw [hx.c0]; simp [updF]
      · rw [hx.c1]; simp [updF]
    · have hl := (z.lo b (by simp [hb])).2
      have hne : b ≠ v.heap.size := by omega
      have := z.box b hb
      rw [show updF F v.heap.size x y b = F b by unfold updF; rw [if_neg hne]]
      exact ⟨two_below this.1 hx.bel hl, this.2.below hx.bel hl⟩
  · have hl := (z.lo g (by simp [hg])).2
    exact ⟨(z.row g hg).1.below hx.bel hl, (z.row g hg).2.below hx.bel hl⟩
  · rw [List.cons_append, List.nodup_cons]
    exact ⟨fun h => by have := (z.lo _ h).2; omega, z.dis⟩
  · intro t ht
    rw [List.cons_append, List.mem_cons] at ht
    have h1 := hx.size
    rcases ht with rfl | ht
    · exact ⟨hsz, by omega⟩
    · have := z.lo t ht
      exact ⟨this.1, by omega⟩

theorem Zs.call {w4 v v' : World} {bx rw : List Nat} {F : Nat → Value × Value} (z : Zs w4 v bx F rw) {g : Nat} (b : Below v.heap.size v v') (t : Tn v v' g ab7) : Zs w4 v' bx F (g :: rw) := by
  have hsz := z.bel.size
  refine ⟨z.bel.trans (b.mono hsz), fun x hx => ?_, fun x hx => ?_, ?_, ?_⟩
  · have hl := (z.lo x (by simp [hx])).2
    exact ⟨two_below (z.box x hx).1 b hl, (z.box x hx).2.below b hl⟩
  · rcases List.mem_cons.1 hx with rfl | hx
    · exact ⟨t.cl, t.wrt⟩
    · have hl := (z.lo x (by simp [hx])).2
      exact ⟨(z.row x hx).1.below b hl, (z.row x hx).2.below b hl⟩
  · have h := z.dis
    rw [List.nodup_append] at h ⊢
    refine ⟨h.1, ?_, ?_⟩
    · rw [List.nodup_cons]
      exact ⟨fun hg => by have := (z.lo g (by simp [hg])).2; have := t.new; omega, h.2.1⟩
    · intro a ha c hc
      rcases List.mem_cons.1 hc with rfl | hc
      · have := (z.lo a (by simp [ha])).2; have := t.new; omega
      · exact h.2.2 a ha c hc
  · intro x hx
    rw [List.mem_append, List.mem_cons] at hx
    have h1 := b.size
    rcases hx with hx | rfl | hx
    · have := z.lo x (by simp [hx]); exact ⟨this.1, by omega⟩
    · exact ⟨Nat.le_trans hsz t.new, t.lt⟩
    · have := z.lo x (by simp [hx]); exact ⟨this.1, by omega⟩

theorem Zs.put {w4 v : World} {bx rw : List Nat} {F : Nat → Value × Value} (z : Zs w4 v bx F rw) {b : Nat} (hb : b ∈ bx) (x y : Value) : Zs w4 (put2 v b x y) bx (updF F b x y) rw := by
  have hw := put2_wrote (v := v) (b := b) x y
  have hl := z.lo b (by simp [hb])
  refine ⟨z.bel.trans (hw.below (fun b' o e => by omega)), fun t ht => ?_, fun g hg => ?_, z.dis, fun t ht => ?_⟩
  · have h := z.box t ht
    refine ⟨?_, hw.wrt h.2⟩
    by_cases e : t = b
    · subst e
      rw [show updF F t x y t = (x, y) by simp [updF]]
      exact put2_cells h.1.1 h.1.2
    · rw [show updF F b x y t = F t by unfold updF; rw [if_neg e]]
      exact ⟨(hw.cell _ _ e).trans h.1.1, (hw.cell _ _ e).trans h.1.2⟩
  · have hne : g ≠ b := by
      have h := z.dis
      rw [List.nodup_append] at h
      intro e
      exact h.2.2 b hb g hg e.symm
    exact ⟨fun t ht k hk => (hw.cell _ _ hne).trans ((z.row g hg).1 t ht k hk), hw.wrt (z.row g hg).2⟩
  · rw [hw.size]
    exact z.lo t ht

/-- Both leaves in their boxes. -/
structure Fs (w4 wc : World) (bs bt g1 g2 d1 d2 : Nat) (K : Int) : Prop where
  bel : Below w4.heap.size w4 wc
  cs : wc.cell? ⟨bs, 0, none⟩ = some (.slice (some ⟨g1, 0, none⟩) 2 d1) ∧ wc.cell? ⟨bs, 1, none⟩ = some (.int .i64 K)
  ct : wc.cell? ⟨bt, 0, none⟩ = some (.slice (some ⟨g2, 0, none⟩) 2 d2) ∧ wc.cell? ⟨bt, 1, none⟩ = some (.int .i64 K)
  r1 : ∃ Q, Cl wc g1 0 2 Q
  f1 : Wrt wc g1 0 8
  r2 : Cl wc g2 0 2 (tx ab7)
  n1 : w4.heap.size ≤ g1
  ns : g1 ≠ bs
  nt : g1 ≠ bt
  ng : g1 ≠ g2
  lt : g1 < wc.heap.size

theorem Zs.fin {w4 v : World} {bx : List Nat} {F : Nat → Value × Value} {g1 g2 d1 d2 bs bt : Nat} {K : Int} (z : Zs w4 v bx F [g2, g1]) (hs : bs ∈ bx) (ht : bt ∈ bx) (es : F bs = (.slice (some ⟨g1, 0, none⟩) 2 d1, .int .i64 K)) (et : F bt = (.slice (some ⟨g2, 0, none⟩) 2 d2, .int .i64 K)) : Fs w4 v bs bt g1 g2 d1 d2 K := by
  have h1 := (z.box bs hs).1
  have h2 := (z.box bt ht).1
  rw [es] at h1
  rw [et] at h2
  have hd := z.dis
  rw [List.nodup_append] at hd
  have hl := z.lo g1 (by simp)
  refine ⟨z.bel, h1, h2, ⟨_, (z.row g1 (by simp)).1⟩, (z.row g1 (by simp)).2, (z.row g2 (by simp)).1, hl.1, fun e => hd.2.2 bs hs g1 (by simp) e.symm, fun e => hd.2.2 bt ht g1 (by simp) e.symm, fun e => ?_, hl.2⟩
  have := hd.2.1
  rw [List.nodup_cons] at this
  exact this.1 (by simp [e])

theorem updF_same (F : Nat → Value × Value) (b : Nat) (x y : Value) : updF F b x y b = (x, y) := if_pos rfl

theorem updF_off (F : Nat → Value × Value) {b t : Nat} (h : t ≠ b) (x y : Value) : updF F b x y t = F t := if_neg h

section
variable {w4 v : World} {bx : List Nat} {F : Nat → Value × Value} {g1 g2 d1 d2 bs bt : Nat} {K : Int}

theorem Zs.nn (z : Zs w4 v bx F [g2, g1]) : Fs w4 ((v.alloc (.cells #[.slice (some ⟨g1, 0, none⟩) 2 d1, .int .i64 K] 24)).alloc (.cells #[.slice (some ⟨g2, 0, none⟩) 2 d2, .int .i64 K] 24)) v.heap.size (v.heap.size + 1) g1 g2 d1 d2 K := by
  have h := (z.new (.slice (some ⟨g1, 0, none⟩) 2 d1) (.int .i64 K)).new (.slice (some ⟨g2, 0, none⟩) 2 d2) (.int .i64 K)
  rw [al_size] at h
  exact h.fin (by simp) (by simp) (by rw [updF_off _ (by omega), updF_same]) (by rw [updF_same])

theorem Zs.nn' (z : Zs w4 v bx F [g2, g1]) : Fs w4 ((v.alloc (.cells #[.slice (some ⟨g2, 0, none⟩) 2 d2, .int .i64 K] 24)).alloc (.cells #[.slice (some ⟨g1, 0, none⟩) 2 d1, .int .i64 K] 24)) (v.heap.size + 1) v.heap.size g1 g2 d1 d2 K := by
  have h := (z.new (.slice (some ⟨g2, 0, none⟩) 2 d2) (.int .i64 K)).new (.slice (some ⟨g1, 0, none⟩) 2 d1) (.int .i64 K)
  rw [al_size] at h
  exact h.fin (by simp) (by simp) (by rw [updF_same]) (by rw [updF_off _ (by omega), updF_same])

theorem Zs.pn (z : Zs w4 v bx F [g2, g1]) (hb : bs ∈ bx) : Fs w4 (((v.setCell ⟨bs, 0, none⟩ (.slice (some ⟨g1, 0, none⟩) 2 d1)).setCell ⟨bs, 1, none⟩ (.int .i64 K)).alloc (.cells #[.slice (some ⟨g2, 0, none⟩) 2 d2, .int .i64 K] 24)) bs v.heap.size g1 g2 d1 d2 K := by
  have h := (z.put hb (.slice (some ⟨g1, 0, none⟩) 2 d1) (.int .i64 K)).new (.slice (some ⟨g2, 0, none⟩) 2 d2) (.int .i64 K)
  have hl := (z.lo bs (by simp [hb])).2
  rw [(put2_wrote (v := v) (b := bs) _ _).size] at h
  exact h.fin (by simp [hb]) (by simp) (by rw [updF_off _ (by omega), updF_same]) (by rw [updF_same])

theorem Zs.np (z : Zs w4 v bx F [g2, g1]) (hb : bt ∈ bx) : Fs w4 (((v.setCell ⟨bt, 0, none⟩ (.slice (some ⟨g2, 0, none⟩) 2 d2)).setCell ⟨bt, 1, none⟩ (.int .i64 K)).alloc (.cells #[.slice (some ⟨g1, 0, none⟩) 2 d1, .int .i64 K] 24)) v.heap.size bt g1 g2 d1 d2 K := by
  have h := (z.put hb (.slice (some ⟨g2, 0, none⟩) 2 d2) (.int .i64 K)).new (.slice (some ⟨g1, 0, none⟩) 2 d1) (.int .i64 K)
  have hl := (z.lo bt (by simp [hb])).2
  rw [(put2_wrote (v := v) (b := bt) _ _).size] at h
  exact h.fin (by simp) (by simp [hb]) (by rw [updF_same]) (by rw [updF_off _ (by omega), updF_same])

theorem Zs.pp (z : Zs w4 v bx F [g2, g1]) (hs : bs ∈ bx) (ht : bt ∈ bx) (hne : ¬ bs = bt) : Fs w4 ((((v.setCell ⟨bs, 0, none⟩ (.slice (some ⟨g1, 0, none⟩) 2 d1)).setCell ⟨bs, 1, none⟩ (.int .i64 K)).setCell ⟨bt, 0, none⟩ (.slice (some ⟨g2, 0, none⟩) 2 d2)).setCell ⟨bt, 1, none⟩ (.int .i64 K)) bs bt g1 g2 d1 d2 K :=
  ((z.put hs (.slice (some ⟨g1, 0, none⟩) 2 d1) (.int .i64 K)).put ht (.slice (some ⟨g2, 0, none⟩) 2 d2) (.int .i64 K)).fin hs ht (by rw [updF_off _ hne, updF_same]) (by rw [updF_same])
end

theorem Fs.grow {w4 wc w' : World} {bs bt g1 g2 d1 d2 : Nat} {K : Int} (h : Fs w4 wc bs bt g1 g2 d1 d2 K) (b : Below wc.heap.size wc w') : Fs w4 w' bs bt g1 g2 d1 d2 K := by
  obtain ⟨Q, hQ⟩ := h.r1
  exact ⟨h.bel.trans (b.mono h.bel.size), two_below h.cs b (World.block_lt_of_cell? wc _ h.cs.1), two_below h.ct b (World.block_lt_of_cell? wc _ h.ct.1), ⟨Q, hQ.below b h.lt⟩, h.f1.below b h.lt, h.r2.below b (h.r2.lt (by omega)), h.n1, h.ns, h.nt, h.ng, Nat.lt_of_lt_of_le h.lt b.size⟩

theorem Fs.put {w4 wc : World} {bs bt g1 g2 d1 d2 k : Nat} {K : Int} (h : Fs w4 wc bs bt g1 g2 d1 d2 K) (hk : k < 2) (f : Nat → Bool) : Fs w4 (put4 wc g1 k f) bs bt g1 g2 d1 d2 K := by
  obtain ⟨Q, hQ⟩ := h.r1
  have hw := put4_wrote (v := wc) (b := g1) (k := k) f
  have hn := h.n1
  exact ⟨h.bel.trans (hw.below (fun b' o e => by omega)), ⟨(hw.cell _ _ h.ns.symm).trans h.cs.1, (hw.cell _ _ h.ns.symm).trans h.cs.2⟩, ⟨(hw.cell _ _ h.nt.symm).trans h.ct.1, (hw.cell _ _ h.nt.symm).trans h.ct.2⟩,
    ⟨_, put4_cl hQ hk f⟩, put4_wrt h.f1 f, fun t ht j hj => (hw.cell _ _ h.ng.symm).trans (h.r2 t ht j hj), h.n1, h.ns, h.nt, h.ng, by rw [hw.size]; exact h.lt⟩

def FZ : Nat → Value × Value := fun _ => (.slice none 0 0, .int .i64 0)

theorem Zs.zero {w4 v : World} {bx rw : List Nat} (z : Zs w4 v bx FZ rw) : Zs w4 (v.alloc (.cells #[.slice none 0 0, .int .i64 0] 24)) (v.heap.size :: bx) FZ rw := by
  have h := z.new (.slice none 0 0) (.int .i64 0)
  rw [show updF FZ v.heap.size (.slice none 0 0) (.int .i64 0) = FZ by funext t; unfold updF FZ; split <;> rfl] at h
  exact h

theorem Zs.zero2 {w4 v : World} {bx rw : List Nat} (z : Zs w4 v bx FZ rw) : Zs w4 ((v.alloc (.cells #[.slice none 0 0, .int .i64 0] 24)).alloc (.cells #[.slice none 0 0, .int .i64 0] 24)) ((v.heap.size + 1) :: v.heap.size :: bx) FZ rw := by
  have h := z.zero.zero
  rw [al_size] at h
  exact h

/-- What the walk reads of a box. -/
structure Zf (w4 v : World) (b : Nat) : Prop where
  c0 : v.cell? ⟨b, 0, none⟩ = some (.slice none 0 0)
  c1 : v.cell? ⟨b, 1, none⟩ = some (.int .i64 0)
  f0 : v.frozen? ⟨b, 0, none⟩ = false
  f1 : v.frozen? ⟨b, 1, none⟩ = false
  lo : w4.heap.size ≤ b
  lt : b < v.heap.size

theorem Zs.at {w4 v : World} {bx rw : List Nat} (z : Zs w4 v bx FZ rw) {b : Nat} (hb : b ∈ bx) : Zf w4 v b :=
  have h := z.box b hb
  have hl := z.lo b (by simp [hb])
  ⟨h.1.1, h.1.2, h.2.zero 0 (by omega), h.2.zero 1 (by omega), hl.1, hl.2⟩

theorem Zs.ne2 {w4 v : World} {a b : Nat} {bx rw : List Nat} (z : Zs w4 v (a :: b :: bx) FZ rw) : ¬ a = b ∧ ¬ b = a := by
  have h := z.dis
  simp only [List.cons_append, List.nodup_cons] at h
  exact ⟨fun e => h.1 (by simp [e]), fun e => h.1 (by simp [e])⟩

/-- On the way of the law's last row. -/
structure Ls (w wk : World) (g g' : Nat) (ao : Option Addr) (n cap : Nat) (P : Nat → Nat → Bool) (K : Int) (bo : Option Addr) (m dap : Nat) (Q : Nat → Nat → Bool) (J : Int) (bt g2 d2 : Nat) : Prop where
  o : Lw2 w wk g g' ao n cap P K bo m dap Q J
  ct : wk.cell? ⟨bt, 0, none⟩ = some (.slice (some ⟨g2, 0, none⟩) 2 d2) ∧ wk.cell? ⟨bt, 1, none⟩ = some (.int .i64 K)
  l : Lf wk (some ⟨g2, 0, none⟩) 2 (tx ab7)

theorem Ls.grow {w wk w' : World} {g g' : Nat} {ao : Option Addr} {n cap : Nat} {P : Nat → Nat → Bool} {K : Int} {bo : Option Addr} {m dap : Nat} {Q : Nat → Nat → Bool} {J : Int} {bt g2 d2 : Nat} (h : Ls w wk g g' ao n cap P K bo m dap Q J bt g2 d2) (b : Below wk.heap.size wk w') : Ls w w' g g' ao n cap P K bo m dap Q J bt g2 d2 :=
  ⟨h.o.grow b, two_below h.ct b (World.block_lt_of_cell? wk _ h.ct.1), h.l.grow b⟩

theorem Fs.ls {w w4 wc : World} {g g' : Nat} {ao : Option Addr} {n cap : Nat} {P : Nat → Nat → Bool} {K : Int} {bo : Option Addr} {m dap : Nat} {Q : Nat → Nat → Bool} {J : Int} {bs bt g1 g2 d1 d2 : Nat} (f : Fs w4 wc bs bt g1 g2 d1 d2 K) (h : Lw2 w w4 g g' ao n cap P K bo m dap Q J) : Ls w wc g g' ao n cap P K bo m dap Q J bt g2 d2 :=
  ⟨h.grow f.bel, f.ct, ⟨by omega, fun _ => ⟨g2, 0, rfl, f.r2.lt (by omega), f.r2⟩⟩⟩

theorem Tn.drewN {w w' : World} {g : Nat} {s : ByteArray} (t : Tn w.drew w' g s) : Tn w w' g s := ⟨t.new, t.lt, t.cl, t.wrt⟩

end Cls
end Go.Proofs.YtcohcdebbkfdfaaDoor
