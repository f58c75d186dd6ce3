/- The walk of 'beaglelaw06.ClassLaws': it answers true; nothing that was there is turned. For the statement's proof. -/
import Derived.OpenShut
import Derived.ProofKit
import Derived.Test.YtodjjajofiaehaaDoorClsAlive
import Derived.Deep.RegionHeld3
import Derived.Deep.RegionWith
import Derived.Deep.DeepCutAuto
namespace Go.Proofs.YtodjjajofiaehaaDoor.classLaws
open Go.ChangeShapes Go.WideShapes Go.ChangeAt Go.RowKit Cls
set_option linter.unusedVariables false

/-- Three boxes, on the way. -/
structure Thr (w wk : World) (ga gb gn : Nat) (f h fn : Nat → Bool) : Prop where
  bel : Below w.heap.size w wk
  a : Fam wk ga 0 4 (wi f)
  b : Fam wk gb 0 4 (wi h)
  n : Fam wk gn 0 4 (wi fn)
  tab : TabB wk
theorem Thr.grow {w wk w' : World} {ga gb gn : Nat} {f h fn : Nat → Bool} (t : Thr w wk ga gb gn f h fn) (b : Below wk.heap.size wk w') : Thr w w' ga gb gn f h fn :=
  ⟨t.bel.trans (b.mono t.bel.size), t.a.below b (t.a.lt (by omega)), t.b.below b (t.b.lt (by omega)), t.n.below b (t.n.lt (by omega)), t.tab.grow b⟩
structure Fou (w wk : World) (ga gb gn go : Nat) (f h fn fb : Nat → Bool) : Prop where
  bel : Below w.heap.size w wk
  a : Fam wk ga 0 4 (wi f)
  b : Fam wk gb 0 4 (wi h)
  n : Fam wk gn 0 4 (wi fn)
  o : Fam wk go 0 4 (wi fb)
  tab : TabB wk
theorem Fou.grow {w wk w' : World} {ga gb gn go : Nat} {f h fn fb : Nat → Bool} (t : Fou w wk ga gb gn go f h fn fb) (b : Below wk.heap.size wk w') : Fou w w' ga gb gn go f h fn fb :=
  ⟨t.bel.trans (b.mono t.bel.size), t.a.below b (t.a.lt (by omega)), t.b.below b (t.b.lt (by omega)), t.n.below b (t.n.lt (by omega)), t.o.below b (t.o.lt (by omega)), t.tab.grow b⟩
/-- A new box, still empty. -/
def Zr (w : World) (gn g : Nat) : Prop := Fam w g 0 4 (wi (fun _ => false)) ∧ Wrt w g 0 4 ∧ gn < g
theorem Zr.grow {w w' : World} {gn g : Nat} (z : Zr w gn g) (b : Below w.heap.size w w') : Zr w' gn g := ⟨z.1.below b (z.1.lt (by omega)), z.2.1.below b (z.1.lt (by omega)), z.2.2⟩
theorem unalloc {v v' : World} {o : Obj} (b : Below (v.alloc o).heap.size (v.alloc o) v') : Below v.heap.size v v' :=
  ((Below.refl _ _).alloc (Nat.le_refl _) o).trans (b.mono (by show v.heap.size ≤ (v.heap.push _).size; simp))
theorem zr_new {v v' : World} (b : Below (v.alloc (.cells #[.int .u64 0, .int .u64 0, .int .u64 0, .int .u64 0] 26)).heap.size (v.alloc (.cells #[.int .u64 0, .int .u64 0, .int .u64 0, .int .u64 0] 26)) v') {gn : Nat} (hn : gn < v.heap.size) : Zr v' gn v.heap.size := by
  obtain ⟨v1, x1⟩ := box0 v
  rw [← x1.eq] at b
  exact Zr.grow ⟨x1.fam, x1.wrt, hn⟩ b
/-- The box, written. -/
theorem thr_set {w wk : World} {ga gb gn g : Nat} {f h fn : Nat → Bool} (t : Thr w wk ga gb gn f h fn) (z : Zr wk gn g) (hb : gb < gn) (ha : ga < gb) (hw : w.heap.size ≤ ga) (ht : 0 < w.heap.size) (fb : Nat → Bool) : Fou w (set4 wk g fb) ga gb gn g f h fn fb :=
  have wr := set4_wrote (v := wk) (b := g) fb
  have hn := z.2.2
  have bl : Below w.heap.size wk (set4 wk g fb) := wr.below (fun b' o e => by omega)
  ⟨t.bel.trans bl, wr.fam t.a (fun _ _ e => by omega), wr.fam t.b (fun _ _ e => by omega), wr.fam t.n (fun _ _ e => by omega), set4_fam z.1 fb, t.tab.below bl ht⟩
theorem thr_new {w wk : World} {ga gb gn : Nat} {f h fn : Nat → Bool} (t : Thr w wk ga gb gn f h fn) (fb : Nat → Bool) : Fou w (wk.alloc (.cells #[.int .u64 ((wd (fb) 0 : Nat) : Int), .int .u64 ((wd (fb) 1 : Nat) : Int), .int .u64 ((wd (fb) 2 : Nat) : Int), .int .u64 ((wd (fb) 3 : Nat) : Int)] 26)) ga gb gn wk.heap.size f h fn fb := by
  obtain ⟨v1, x1⟩ := box wk fb
  rw [← x1.eq]
  have t2 := t.grow x1.bel
  exact ⟨t2.bel, t2.a, t2.b, t2.n, x1.fam, t2.tab⟩
theorem cb_or (f h : Nat → Bool) (n : Nat) : cb (fun b => f b || h b) 0 n + cb (fun b => f b && h b) 0 n = cb f 0 n + cb h 0 n := by
  induction n with
  | zero => simp [cb]
  | succ n ih =>
    rw [cb_snoc, cb_snoc, cb_snoc, cb_snoc]
    have : (f n || h n).toNat + (f n && h n).toNat = (f n).toNat + (h n).toNat := by cases f n <;> cases h n <;> rfl
    omega
theorem cb_not (f : Nat → Bool) (n : Nat) : cb f 0 n + cb (fun b => !f b) 0 n = n := by
  induction n with
  | zero => simp [cb]
  | succ n ih =>
    rw [cb_snoc, cb_snoc]
    have : (f n).toNat + (!f n).toNat = 1 := by cases f n <;> rfl
    omega
set_option maxHeartbeats 16000000 in
theorem core (f h fn fm fo fb fan fF fab fba faa : Nat → Bool) (Na Nn Nb No Nab : Nat)
    (CNa : ∀ v : World, Calls Tryd.prog 16 #[.agg #[.int .u64 ((wd (f) 0 : Nat) : Int), .int .u64 ((wd (f) 1 : Nat) : Int), .int .u64 ((wd (f) 2 : Nat) : Int), .int .u64 ((wd (f) 3 : Nat) : Int)]] v fun e w' => e = .returned (.agg #[.int .u64 ((wd (fn) 0 : Nat) : Int), .int .u64 ((wd (fn) 1 : Nat) : Int), .int .u64 ((wd (fn) 2 : Nat) : Int), .int .u64 ((wd (fn) 3 : Nat) : Int)]) ∧ Below v.heap.size v w')
    (CNb : ∀ v : World, Calls Tryd.prog 16 #[.agg #[.int .u64 ((wd (h) 0 : Nat) : Int), .int .u64 ((wd (h) 1 : Nat) : Int), .int .u64 ((wd (h) 2 : Nat) : Int), .int .u64 ((wd (h) 3 : Nat) : Int)]] v fun e w' => e = .returned (.agg #[.int .u64 ((wd (fm) 0 : Nat) : Int), .int .u64 ((wd (fm) 1 : Nat) : Int), .int .u64 ((wd (fm) 2 : Nat) : Int), .int .u64 ((wd (fm) 3 : Nat) : Int)]) ∧ Below v.heap.size v w')
    (COn : ∀ v : World, Calls Tryd.prog 18 #[.agg #[.int .u64 ((wd (fn) 0 : Nat) : Int), .int .u64 ((wd (fn) 1 : Nat) : Int), .int .u64 ((wd (fn) 2 : Nat) : Int), .int .u64 ((wd (fn) 3 : Nat) : Int)], .agg #[.int .u64 ((wd (fm) 0 : Nat) : Int), .int .u64 ((wd (fm) 1 : Nat) : Int), .int .u64 ((wd (fm) 2 : Nat) : Int), .int .u64 ((wd (fm) 3 : Nat) : Int)]] v fun e w' => e = .returned (.agg #[.int .u64 ((wd (fo) 0 : Nat) : Int), .int .u64 ((wd (fo) 1 : Nat) : Int), .int .u64 ((wd (fo) 2 : Nat) : Int), .int .u64 ((wd (fo) 3 : Nat) : Int)]) ∧ Below v.heap.size v w')
    (CNo : ∀ v : World, Calls Tryd.prog 16 #[.agg #[.int .u64 ((wd (fo) 0 : Nat) : Int), .int .u64 ((wd (fo) 1 : Nat) : Int), .int .u64 ((wd (fo) 2 : Nat) : Int), .int .u64 ((wd (fo) 3 : Nat) : Int)]] v fun e w' => e = .returned (.agg #[.int .u64 ((wd (fb) 0 : Nat) : Int), .int .u64 ((wd (fb) 1 : Nat) : Int), .int .u64 ((wd (fb) 2 : Nat) : Int), .int .u64 ((wd (fb) 3 : Nat) : Int)]) ∧ Below v.heap.size v w')
    (CSa : ∀ v : World, Calls Tryd.prog 24 #[.agg #[.int .u64 ((wd (f) 0 : Nat) : Int), .int .u64 ((wd (f) 1 : Nat) : Int), .int .u64 ((wd (f) 2 : Nat) : Int), .int .u64 ((wd (f) 3 : Nat) : Int)]] v fun e w' => e = .returned (.int .i64 ((Na : Nat) : Int)) ∧ Below v.heap.size v w')
    (CSn : ∀ v : World, Calls Tryd.prog 24 #[.agg #[.int .u64 ((wd (fn) 0 : Nat) : Int), .int .u64 ((wd (fn) 1 : Nat) : Int), .int .u64 ((wd (fn) 2 : Nat) : Int), .int .u64 ((wd (fn) 3 : Nat) : Int)]] v fun e w' => e = .returned (.int .i64 ((Nn : Nat) : Int)) ∧ Below v.heap.size v w')
    (COan : ∀ v : World, Calls Tryd.prog 18 #[.agg #[.int .u64 ((wd (f) 0 : Nat) : Int), .int .u64 ((wd (f) 1 : Nat) : Int), .int .u64 ((wd (f) 2 : Nat) : Int), .int .u64 ((wd (f) 3 : Nat) : Int)], .agg #[.int .u64 ((wd (fn) 0 : Nat) : Int), .int .u64 ((wd (fn) 1 : Nat) : Int), .int .u64 ((wd (fn) 2 : Nat) : Int), .int .u64 ((wd (fn) 3 : Nat) : Int)]] v fun e w' => e = .returned (.agg #[.int .u64 ((wd (fan) 0 : Nat) : Int), .int .u64 ((wd (fan) 1 : Nat) : Int), .int .u64 ((wd (fan) 2 : Nat) : Int), .int .u64 ((wd (fan) 3 : Nat) : Int)]) ∧ Below v.heap.size v w')
    (CF : ∀ v : World, Calls Tryd.prog 14 #[] v fun e w' => e = .returned (.agg #[.int .u64 ((wd (fF) 0 : Nat) : Int), .int .u64 ((wd (fF) 1 : Nat) : Int), .int .u64 ((wd (fF) 2 : Nat) : Int), .int .u64 ((wd (fF) 3 : Nat) : Int)]) ∧ Below v.heap.size v w')
    (COab : ∀ v : World, Calls Tryd.prog 18 #[.agg #[.int .u64 ((wd (f) 0 : Nat) : Int), .int .u64 ((wd (f) 1 : Nat) : Int), .int .u64 ((wd (f) 2 : Nat) : Int), .int .u64 ((wd (f) 3 : Nat) : Int)], .agg #[.int .u64 ((wd (h) 0 : Nat) : Int), .int .u64 ((wd (h) 1 : Nat) : Int), .int .u64 ((wd (h) 2 : Nat) : Int), .int .u64 ((wd (h) 3 : Nat) : Int)]] v fun e w' => e = .returned (.agg #[.int .u64 ((wd (fab) 0 : Nat) : Int), .int .u64 ((wd (fab) 1 : Nat) : Int), .int .u64 ((wd (fab) 2 : Nat) : Int), .int .u64 ((wd (fab) 3 : Nat) : Int)]) ∧ Below v.heap.size v w')
    (COba : ∀ v : World, Calls Tryd.prog 18 #[.agg #[.int .u64 ((wd (h) 0 : Nat) : Int), .int .u64 ((wd (h) 1 : Nat) : Int), .int .u64 ((wd (h) 2 : Nat) : Int), .int .u64 ((wd (h) 3 : Nat) : Int)], .agg #[.int .u64 ((wd (f) 0 : Nat) : Int), .int .u64 ((wd (f) 1 : Nat) : Int), .int .u64 ((wd (f) 2 : Nat) : Int), .int .u64 ((wd (f) 3 : Nat) : Int)]] v fun e w' => e = .returned (.agg #[.int .u64 ((wd (fba) 0 : Nat) : Int), .int .u64 ((wd (fba) 1 : Nat) : Int), .int .u64 ((wd (fba) 2 : Nat) : Int), .int .u64 ((wd (fba) 3 : Nat) : Int)]) ∧ Below v.heap.size v w')
    (COaa : ∀ v : World, Calls Tryd.prog 18 #[.agg #[.int .u64 ((wd (f) 0 : Nat) : Int), .int .u64 ((wd (f) 1 : Nat) : Int), .int .u64 ((wd (f) 2 : Nat) : Int), .int .u64 ((wd (f) 3 : Nat) : Int)], .agg #[.int .u64 ((wd (f) 0 : Nat) : Int), .int .u64 ((wd (f) 1 : Nat) : Int), .int .u64 ((wd (f) 2 : Nat) : Int), .int .u64 ((wd (f) 3 : Nat) : Int)]] v fun e w' => e = .returned (.agg #[.int .u64 ((wd (faa) 0 : Nat) : Int), .int .u64 ((wd (faa) 1 : Nat) : Int), .int .u64 ((wd (faa) 2 : Nat) : Int), .int .u64 ((wd (faa) 3 : Nat) : Int)]) ∧ Below v.heap.size v w')
    (CSab : ∀ v : World, Calls Tryd.prog 24 #[.agg #[.int .u64 ((wd (fab) 0 : Nat) : Int), .int .u64 ((wd (fab) 1 : Nat) : Int), .int .u64 ((wd (fab) 2 : Nat) : Int), .int .u64 ((wd (fab) 3 : Nat) : Int)]] v fun e w' => e = .returned (.int .i64 ((Nab : Nat) : Int)) ∧ Below v.heap.size v w')
    (CSb : ∀ v : World, Calls Tryd.prog 24 #[.agg #[.int .u64 ((wd (h) 0 : Nat) : Int), .int .u64 ((wd (h) 1 : Nat) : Int), .int .u64 ((wd (h) 2 : Nat) : Int), .int .u64 ((wd (h) 3 : Nat) : Int)]] v fun e w' => e = .returned (.int .i64 ((Nb : Nat) : Int)) ∧ Below v.heap.size v w')
    (CSo : ∀ v : World, Calls Tryd.prog 24 #[.agg #[.int .u64 ((wd (fb) 0 : Nat) : Int), .int .u64 ((wd (fb) 1 : Nat) : Int), .int .u64 ((wd (fb) 2 : Nat) : Int), .int .u64 ((wd (fb) 3 : Nat) : Int)]] v fun e w' => e = .returned (.int .i64 ((No : Nat) : Int)) ∧ Below v.heap.size v w')
    (CA : ∀ v : World, TabB v → Calls Tryd.prog 9 #[] v fun e w' => e = .returned (.bool true) ∧ Below v.heap.size v w')
    (q1 : sm fan fF = true)
    (q2 : sm fab fba = true)
    (q3 : sm faa f = true)
    (l1 : (Na : Int) ≤ 256)
    (l2 : (Nn : Int) ≤ 256)
    (l3 : (Nb : Int) ≤ 256)
    (l4 : (No : Int) ≤ 256)
    (e1 : (Na : Int) + (Nn : Int) = 256)
    (e2 : IntKind.i64.wrap (IntKind.i64.wrap ((Na : Int) + (Nb : Int)) - (No : Int)) = (Nab : Int)) (w : World) (hT : TabB w) :
    Calls Tryd.prog 8 #[.agg #[.int .u64 ((wd (f) 0 : Nat) : Int), .int .u64 ((wd (f) 1 : Nat) : Int), .int .u64 ((wd (f) 2 : Nat) : Int), .int .u64 ((wd (f) 3 : Nat) : Int)], .agg #[.int .u64 ((wd (h) 0 : Nat) : Int), .int .u64 ((wd (h) 1 : Nat) : Int), .int .u64 ((wd (h) 2 : Nat) : Int), .int .u64 ((wd (h) 3 : Nat) : Int)]] w fun e w' => e = .returned (.bool true) ∧ Below w.heap.size w w' := by
  have HCNa : Hid _ := CNa
  have HCNb : Hid _ := CNb
  have HCOn : Hid _ := COn
  have HCNo : Hid _ := CNo
  have HCSa : Hid _ := CSa
  have HCSn : Hid _ := CSn
  have HCOan : Hid _ := COan
  have HCF : Hid _ := CF
  have HCOab : Hid _ := COab
  have HCOba : Hid _ := COba
  have HCOaa : Hid _ := COaa
  have HCSab : Hid _ := CSab
  have HCSb : Hid _ := CSb
  have HCSo : Hid _ := CSo
  have HCA : Hid _ := CA
  clear CNa CNb COn CNo CSa CSn COan CF COab COba COaa CSab CSb CSo CA
  obtain ⟨w1, b1⟩ := box w f
  obtain ⟨w2, b2⟩ := box w1 h
  have s1 : w.heap.size < w1.heap.size := by have := b1.size; omega
  have E1 : Hid _ := b1.eq
  have E2 : Hid _ := b2.eq
  have HS : Hid (w.heap.size + 1 = w1.heap.size) := b1.size.symm
  have hgt : 0 < w.heap.size := tabB_lt hT
  have B2 : Hid (Below w.heap.size w w2) := b1.bel.trans (b2.bel.mono b1.bel.size)
  have FA : Hid (Fam w2 w.heap.size 0 4 (wi f)) := b1.fam.below b2.bel s1
  have FB : Hid (Fam w2 w1.heap.size 0 4 (wi h)) := b2.fam
  have T2 : TabB w2 := (hT.grow b1.bel).grow b2.bel
  have s2 : w1.heap.size < w2.heap.size := by have := b2.size; omega
  have c1 : Hid _ := HCNa.out w2
  clear b1 b2 hT
  obtain ⟨a0, a1, a2, a3⟩ := c4 FA.out
  generalize w1.heap.size = gb at *
  go_enter Tryd.func8, Tryd.ntmps8
  go_wp2_with fail
  rw [← E1.out, ← E2.out, HS.out]
  clear E1 E2 HS
  refine Calls.mono (Hid.out c1) ?_; rintro e w3 ⟨rfl, b3⟩
  obtain ⟨w4, x4⟩ := box w3 fn
  have s3 : w2.heap.size ≤ w3.heap.size := b3.size
  have E4 : Hid _ := x4.eq
  have B3 : Below w.heap.size w w3 := B2.out.trans (b3.mono B2.out.size)
  have TT : Hid (Thr w w4 w.heap.size gb w3.heap.size f h fn) :=
    ⟨B3.trans (x4.bel.mono B3.size), (FA.out.below b3 (by omega)).below x4.bel (by omega), (FB.out.below b3 s2).below x4.bel (by omega), x4.fam, (T2.grow b3).grow x4.bel⟩
  have T4 : TabB w4 := (T2.grow b3).grow x4.bel
  have s4 : w3.heap.size < w4.heap.size := by have := x4.size; omega
  obtain ⟨gn, hgn⟩ : ∃ g, w3.heap.size = g := ⟨_, rfl⟩
  have HGN : Hid (w3.heap.size = gn) := hgn
  rw [hgn] at TT s4 s3
  clear b3 x4 B3 FA FB a0 a1 a2 a3 T2 c1 B2 hgn
  have ord : w.heap.size < gb ∧ gb < gn ∧ gn < w4.heap.size := ⟨s1, by omega, s4⟩
  have HORD : Hid (w.heap.size < gb ∧ gb < gn ∧ gn < w4.heap.size) := ord
  clear s1 s2 s3 s4 ord
  go_wp2_with fail
  rw [← E4.out, HGN.out]
  clear E4 HGN
  obtain ⟨a0, a1, a2, a3⟩ := c4 TT.out.a
  obtain ⟨r0, r1, r2, r3⟩ := c4 TT.out.b
  have la : w.heap.size < w4.heap.size := Fam.lt TT.out.a (by omega)
  have lb : gb < w4.heap.size := Fam.lt TT.out.b (by omega)
  go_cut [6] (fun v6 wc => ∃ go : Nat, v6 = .pointer (some ⟨go, 0, none⟩) ∧ Fou w wc w.heap.size gb gn go f h fn fb ∧ TabB wc)
  case first =>
    go_region_with (first | (go_at_call 16; (first | (with_reducible refine Calls.mono (HCNa.out _) ?_) | (with_reducible refine Calls.mono (HCNb.out _) ?_) | (with_reducible refine Calls.mono (HCNo.out _) ?_)); rintro e vk ⟨rfl, bb⟩; (try (have Z2 : Hid (Zr vk gn _) := Zr.grow ZZ.out (by first | exact bb | exact undrew bb | exact unalloc bb | exact undrew (unalloc bb) | exact unalloc (undrew bb)); clear ZZ z0 z1 z2 z3 y0 y1 y2 y3; have ZZ : Hid (Zr vk gn _) := Z2.out; clear Z2; obtain ⟨z0, z1, z2, z3⟩ := c4 ZZ.out.1; obtain ⟨y0, y1, y2, y3⟩ := f4 ZZ.out.2.1)); (try (have ZZ : Hid (Zr vk gn _) := zr_new (by first | exact bb | exact undrew bb) (Fam.lt TT.out.n (by omega)); obtain ⟨z0, z1, z2, z3⟩ := c4 ZZ.out.1; obtain ⟨y0, y1, y2, y3⟩ := f4 ZZ.out.2.1)); have TB : Hid (Thr w vk w.heap.size gb gn f h fn) := Thr.grow TT.out (by first | exact bb | exact undrew bb | exact unalloc bb | exact undrew (unalloc bb) | exact unalloc (undrew bb)); clear bb TT a0 a1 a2 a3 r0 r1 r2 r3 la lb; have TT : Hid (Thr w vk w.heap.size gb gn f h fn) := TB.out; clear TB; obtain ⟨a0, a1, a2, a3⟩ := c4 TT.out.a; obtain ⟨r0, r1, r2, r3⟩ := c4 TT.out.b; have la : w.heap.size < vk.heap.size := Fam.lt TT.out.a (by omega); have lb : gb < vk.heap.size := Fam.lt TT.out.b (by omega)) | (go_at_call 18; (first | (with_reducible refine Calls.mono (HCOn.out _) ?_)); rintro e vk ⟨rfl, bb⟩; (try (have Z2 : Hid (Zr vk gn _) := Zr.grow ZZ.out (by first | exact bb | exact undrew bb | exact unalloc bb | exact undrew (unalloc bb) | exact unalloc (undrew bb)); clear ZZ z0 z1 z2 z3 y0 y1 y2 y3; have ZZ : Hid (Zr vk gn _) := Z2.out; clear Z2; obtain ⟨z0, z1, z2, z3⟩ := c4 ZZ.out.1; obtain ⟨y0, y1, y2, y3⟩ := f4 ZZ.out.2.1)); (try (have ZZ : Hid (Zr vk gn _) := zr_new (by first | exact bb | exact undrew bb) (Fam.lt TT.out.n (by omega)); obtain ⟨z0, z1, z2, z3⟩ := c4 ZZ.out.1; obtain ⟨y0, y1, y2, y3⟩ := f4 ZZ.out.2.1)); have TB : Hid (Thr w vk w.heap.size gb gn f h fn) := Thr.grow TT.out (by first | exact bb | exact undrew bb | exact unalloc bb | exact undrew (unalloc bb) | exact unalloc (undrew bb)); clear bb TT a0 a1 a2 a3 r0 r1 r2 r3 la lb; have TT : Hid (Thr w vk w.heap.size gb gn f h fn) := TB.out; clear TB; obtain ⟨a0, a1, a2, a3⟩ := c4 TT.out.a; obtain ⟨r0, r1, r2, r3⟩ := c4 TT.out.b; have la : w.heap.size < vk.heap.size := Fam.lt TT.out.a (by omega); have lb : gb < vk.heap.size := Fam.lt TT.out.b (by omega)))
    all_goals
      go_wp2_with fail
      go_meet
      first
        | exact ⟨_, rfl, thr_new TT.out fb, (thr_new TT.out fb).tab⟩
        | exact ⟨_, rfl, thr_set TT.out ZZ.out HORD.out.2.1 HORD.out.1 (Nat.le_refl _) hgt fb, (thr_set TT.out ZZ.out HORD.out.2.1 HORD.out.1 (Nat.le_refl _) hgt fb).tab⟩
  case rest =>
    clear TT a0 a1 a2 a3 r0 r1 r2 r3 la lb T4
    obtain ⟨go, rfl, hF, hTb⟩ := hcut
    have TT : Hid (Fou w wc w.heap.size gb gn go f h fn fb) := hF
    have T4 : TabB wc := hTb
    clear hF hTb
    obtain ⟨a0, a1, a2, a3⟩ := c4 TT.out.a
    obtain ⟨r0, r1, r2, r3⟩ := c4 TT.out.b
    obtain ⟨n0, n1, n2, n3⟩ := c4 TT.out.n
    obtain ⟨o0, o1, o2, o3⟩ := c4 TT.out.o
    go_wp2_with fail
    try dsimp only [List.append]
    go_region_held3 (fun w' => w'.cell? ⟨w.heap.size, 0, none⟩ = some (.int .u64 ((wd f 0 : Nat) : Int)) ∧ w'.cell? ⟨w.heap.size, 1, none⟩ = some (.int .u64 ((wd f 1 : Nat) : Int)) ∧ w'.cell? ⟨w.heap.size, 2, none⟩ = some (.int .u64 ((wd f 2 : Nat) : Int)) ∧ w'.cell? ⟨w.heap.size, 3, none⟩ = some (.int .u64 ((wd f 3 : Nat) : Int)) ∧ w'.cell? ⟨gb, 0, none⟩ = some (.int .u64 ((wd h 0 : Nat) : Int)) ∧ w'.cell? ⟨gb, 1, none⟩ = some (.int .u64 ((wd h 1 : Nat) : Int)) ∧ w'.cell? ⟨gb, 2, none⟩ = some (.int .u64 ((wd h 2 : Nat) : Int)) ∧ w'.cell? ⟨gb, 3, none⟩ = some (.int .u64 ((wd h 3 : Nat) : Int)) ∧ w'.cell? ⟨gn, 0, none⟩ = some (.int .u64 ((wd fn 0 : Nat) : Int)) ∧ w'.cell? ⟨gn, 1, none⟩ = some (.int .u64 ((wd fn 1 : Nat) : Int)) ∧ w'.cell? ⟨gn, 2, none⟩ = some (.int .u64 ((wd fn 2 : Nat) : Int)) ∧ w'.cell? ⟨gn, 3, none⟩ = some (.int .u64 ((wd fn 3 : Nat) : Int)) ∧ w'.cell? ⟨go, 0, none⟩ = some (.int .u64 ((wd fb 0 : Nat) : Int)) ∧ w'.cell? ⟨go, 1, none⟩ = some (.int .u64 ((wd fb 1 : Nat) : Int)) ∧ w'.cell? ⟨go, 2, none⟩ = some (.int .u64 ((wd fb 2 : Nat) : Int)) ∧ w'.cell? ⟨go, 3, none⟩ = some (.int .u64 ((wd fb 3 : Nat) : Int))) (go_keep)
      (first | (go_at_call 9; (refine Calls.mono (HCA.out _ T4) ?_); rintro e vk ⟨rfl, bb⟩; have TB : Hid (Fou w vk w.heap.size gb gn go f h fn fb) := Fou.grow TT.out (by first | exact undrew bb | exact bb); clear bb TT a0 a1 a2 a3 r0 r1 r2 r3 n0 n1 n2 n3 o0 o1 o2 o3; have TT : Hid (Fou w vk w.heap.size gb gn go f h fn fb) := TB.out; clear TB; obtain ⟨a0, a1, a2, a3⟩ := c4 TT.out.a; obtain ⟨r0, r1, r2, r3⟩ := c4 TT.out.b; obtain ⟨n0, n1, n2, n3⟩ := c4 TT.out.n; obtain ⟨o0, o1, o2, o3⟩ := c4 TT.out.o) | (go_at_call 24; (first | (with_reducible refine Calls.mono (HCSa.out _) ?_) | (with_reducible refine Calls.mono (HCSn.out _) ?_) | (with_reducible refine Calls.mono (HCSab.out _) ?_) | (with_reducible refine Calls.mono (HCSb.out _) ?_) | (with_reducible refine Calls.mono (HCSo.out _) ?_)); rintro e vk ⟨rfl, bb⟩; have TB : Hid (Fou w vk w.heap.size gb gn go f h fn fb) := Fou.grow TT.out (by first | exact undrew bb | exact bb); clear bb TT a0 a1 a2 a3 r0 r1 r2 r3 n0 n1 n2 n3 o0 o1 o2 o3; have TT : Hid (Fou w vk w.heap.size gb gn go f h fn fb) := TB.out; clear TB; obtain ⟨a0, a1, a2, a3⟩ := c4 TT.out.a; obtain ⟨r0, r1, r2, r3⟩ := c4 TT.out.b; obtain ⟨n0, n1, n2, n3⟩ := c4 TT.out.n; obtain ⟨o0, o1, o2, o3⟩ := c4 TT.out.o) | (go_at_call 18; (first | (with_reducible refine Calls.mono (HCOan.out _) ?_) | (with_reducible refine Calls.mono (HCOab.out _) ?_) | (with_reducible refine Calls.mono (HCOba.out _) ?_) | (with_reducible refine Calls.mono (HCOaa.out _) ?_)); rintro e vk ⟨rfl, bb⟩; have TB : Hid (Fou w vk w.heap.size gb gn go f h fn fb) := Fou.grow TT.out (by first | exact undrew bb | exact bb); clear bb TT a0 a1 a2 a3 r0 r1 r2 r3 n0 n1 n2 n3 o0 o1 o2 o3; have TT : Hid (Fou w vk w.heap.size gb gn go f h fn fb) := TB.out; clear TB; obtain ⟨a0, a1, a2, a3⟩ := c4 TT.out.a; obtain ⟨r0, r1, r2, r3⟩ := c4 TT.out.b; obtain ⟨n0, n1, n2, n3⟩ := c4 TT.out.n; obtain ⟨o0, o1, o2, o3⟩ := c4 TT.out.o) | (go_at_call 14; (first | (with_reducible refine Calls.mono (HCF.out _) ?_)); rintro e vk ⟨rfl, bb⟩; have TB : Hid (Fou w vk w.heap.size gb gn go f h fn fb) := Fou.grow TT.out (by first | exact undrew bb | exact bb); clear bb TT a0 a1 a2 a3 r0 r1 r2 r3 n0 n1 n2 n3 o0 o1 o2 o3; have TT : Hid (Fou w vk w.heap.size gb gn go f h fn fb) := TB.out; clear TB; obtain ⟨a0, a1, a2, a3⟩ := c4 TT.out.a; obtain ⟨r0, r1, r2, r3⟩ := c4 TT.out.b; obtain ⟨n0, n1, n2, n3⟩ := c4 TT.out.n; obtain ⟨o0, o1, o2, o3⟩ := c4 TT.out.o))
    go_wp2_with fail
    go_ret
    exact ⟨rfl, TT.out.bel⟩
theorem walk (f h : Nat → Bool) (w : World) (hT : TabB w) :
    Calls Tryd.prog 8 #[.agg #[.int .u64 ((wd (f) 0 : Nat) : Int), .int .u64 ((wd (f) 1 : Nat) : Int), .int .u64 ((wd (f) 2 : Nat) : Int), .int .u64 ((wd (f) 3 : Nat) : Int)], .agg #[.int .u64 ((wd (h) 0 : Nat) : Int), .int .u64 ((wd (h) 1 : Nat) : Int), .int .u64 ((wd (h) 2 : Nat) : Int), .int .u64 ((wd (h) 3 : Nat) : Int)]] w fun e w' => e = .returned (.bool true) ∧ Below w.heap.size w w' := by
  have o1 := cb_or f h 256
  have o2 := cb_not f 256
  have o3 : cb (fun b => !((!f b) || (!h b))) 0 256 = cb (fun b => f b && h b) 0 256 := by
    congr 1
    funext b
    cases f b <;> cases h b <;> rfl
  have l : ∀ g, cb g 0 256 ≤ 256 := fun g => cb_le g 0 256
  refine core f h (fun b => !f b) (fun b => !h b) (fun b => (!f b) || (!h b)) (fun b => !((!f b) || (!h b))) (fun b => f b || !f b) (fun _ => true) (fun b => f b || h b) (fun b => h b || f b) (fun b => f b || f b) (cb f 0 256) (cb (fun b => !f b) 0 256) (cb h 0 256) (cb (fun b => !((!f b) || (!h b))) 0 256) (cb (fun b => f b || h b) 0 256)
    (fun v => not_any _ v) (fun v => not_any _ v) (fun v => or_any _ _ v) (fun v => not_any _ v) (fun v => size_any _ v) (fun v => size_any _ v) (fun v => or_any _ _ v) full_any (fun v => or_any _ _ v) (fun v => or_any _ _ v) (fun v => or_any _ _ v) (fun v => size_any _ v) (fun v => size_any _ v) (fun v => size_any _ v) alive_any
    (sm_true (fun b _ => by cases f b <;> rfl)) (sm_true (fun b _ => Bool.or_comm _ _)) (sm_true (fun b _ => by cases f b <;> rfl)) ?_ ?_ ?_ ?_ ?_ ?_ w hT
  · have := l f; omega
  · have := l (fun b => !f b); omega
  · have := l h; omega
  · have := l (fun b => !((!f b) || (!h b))); omega
  · omega
  · have l1 := l f
    have l2 := l h
    rw [o3]
    generalize cb f 0 256 = x at *
    generalize cb h 0 256 = y at *
    generalize cb (fun b => f b && h b) 0 256 = z at *
    generalize cb (fun b => f b || h b) 0 256 = u at *
    clear o2 o3 l
    simp [IntKind.wrap, IntKind.signed, IntKind.bits]
    omega

end Go.Proofs.YtodjjajofiaehaaDoor.classLaws
