/- Contract of beaglelaw06.alive: it tells true; nothing that was there turns. -/
import Derived.Test.YtodjjajofiaehaaDoorClsRefRu
import Derived.Test.YtodjjajofiaehaaDoorClsRefSz
import Derived.Test.YtodjjajofiaehaaDoorClsRefs
namespace Go.Proofs.YtodjjajofiaehaaDoor
open Go.RowKit
namespace Cls

theorem rr_skip {f : Nat → Bool} {m : Nat} : ∀ k, (∀ x, m ≤ x → x < m + k → f x = false) → rr f (m + k) = rr f m
  | 0, _ => rfl
  | k + 1, h => by rw [← Nat.add_assoc, rr_not (h (m + k) (by omega) (by omega)), rr_skip k (fun x h1 h2 => h x h1 (by omega))]
theorem cb_count (f : Nat → Bool) (n : Nat) : cb f 0 n = ((List.range n).filter f).length := by
  induction n with
  | zero => simp [cb]
  | succ n ih =>
    rw [cb_snoc, ih, List.range_succ, List.filter_append, List.length_append]
    cases h : f n <;> simp [h]
theorem cb_all (n : Nat) : cb (fun _ => true) 0 n = n := by
  induction n with
  | zero => simp [cb]
  | succ n ih => rw [cb_snoc, ih]; rfl
/-- The bytes of "abcx". -/
def fA (b : Nat) : Bool := rg 97 100 b || b == 120
def fX (b : Nat) : Bool := b == 120
theorem inS_A : ∀ b, b < 256 → inS ⟨#[97, 98, 99, 120]⟩ 4 b = fA b := by decide +kernel
theorem inS_X : ∀ b, b < 256 → inS ⟨#[120]⟩ 1 b = fX b := by decide +kernel
theorem fA_size : cb fA 0 256 = 4 := by rw [cb_count]; decide +kernel
theorem fA_in : ∀ x, x < 256 → (fA x = true ↔ (97 ≤ x ∧ x ≤ 99) ∨ x = 120) := by decide +kernel
theorem fA_runs : rr fA 256 = [(97, 99), (120, 120)] := by
  have no : ∀ x, x < 256 → ¬ ((97 ≤ x ∧ x ≤ 99) ∨ x = 120) → fA x = false := fun x hx h => by
    cases e : fA x with
    | false => rfl
    | true => exact absurd ((fA_in x hx).1 e) h
  have h1 : rr fA (0 + 97) = rr fA 0 := rr_skip 97 (fun x _ h => no x (by omega) (by omega))
  have h2 : rr fA (97 + 2 + 1) = rr fA 97 ++ [(97, 97 + 2)] := rr_run (Or.inr (no 96 (by omega) (by omega))) 2 (fun x h1 h2 => (fA_in x (by omega)).2 (by omega))
  have h3 : rr fA (100 + 20) = rr fA 100 := rr_skip 20 (fun x h0 h => no x (by omega) (by omega))
  have h4 : rr fA (120 + 0 + 1) = rr fA 120 ++ [(120, 120 + 0)] := rr_run (Or.inr (no 119 (by omega) (by omega))) 0 (fun x h1 h2 => (fA_in x (by omega)).2 (by omega))
  have h5 : rr fA (121 + 135) = rr fA 121 := rr_skip 135 (fun x h0 h => no x (by omega) (by omega))
  rw [show (256 : Nat) = 121 + 135 from rfl, h5, show (121 : Nat) = 120 + 0 + 1 from rfl, h4, show (120 : Nat) = 100 + 20 from rfl, h3, show (100 : Nat) = 97 + 2 + 1 from rfl, h2, show (97 : Nat) = 0 + 97 from rfl, h1, rr_zero]
  rfl
theorem fA_not : Sgl fA 0 false := Or.inr ⟨rfl, rfl, fun ⟨c, hc, h⟩ => by
  have h1 := h 97 (by omega)
  have h2 := h 98 (by omega)
  rw [show fA 97 = true by decide +kernel] at h1
  rw [show fA 98 = true by decide +kernel] at h2
  simp at h1 h2
  omega⟩
theorem fX_one : Sgl fX 120 true := Or.inl ⟨rfl, by omega, fun _ _ => rfl⟩
theorem ofA (w : World) : Calls Tryd.prog 10 #[.string ⟨#[97, 98, 99, 120]⟩] w fun e w' => e = .returned (.agg #[.int .u64 ((wd (fA) 0 : Nat) : Int), .int .u64 ((wd (fA) 1 : Nat) : Int), .int .u64 ((wd (fA) 2 : Nat) : Int), .int .u64 ((wd (fA) 3 : Nat) : Int)]) ∧ Below w.heap.size w w' := by
  have h := of_any ⟨#[97, 98, 99, 120]⟩ (by decide) w
  have e : ∀ k, k < 4 → wd (inS ⟨#[97, 98, 99, 120]⟩ 4) k = wd fA k := fun k hk => wd_congr inS_A hk
  rw [show ByteArray.size ⟨#[97, 98, 99, 120]⟩ = 4 from rfl, e 0 (by omega), e 1 (by omega), e 2 (by omega), e 3 (by omega)] at h
  exact h
theorem ofX (w : World) : Calls Tryd.prog 10 #[.string ⟨#[120]⟩] w fun e w' => e = .returned (.agg #[.int .u64 ((wd (fX) 0 : Nat) : Int), .int .u64 ((wd (fX) 1 : Nat) : Int), .int .u64 ((wd (fX) 2 : Nat) : Int), .int .u64 ((wd (fX) 3 : Nat) : Int)]) ∧ Below w.heap.size w w' := by
  have h := of_any ⟨#[120]⟩ (by decide) w
  have e : ∀ k, k < 4 → wd (inS ⟨#[120]⟩ 1) k = wd fX k := fun k hk => wd_congr inS_X hk
  rw [show ByteArray.size ⟨#[120]⟩ = 1 from rfl, e 0 (by omega), e 1 (by omega), e 2 (by omega), e 3 (by omega)] at h
  exact h
/-- The box of a set, on the way. -/
structure Al (w wk : World) (ga : Nat) (f : Nat → Bool) : Prop where
  bel : Below w.heap.size w wk
  a : Fam wk ga 0 4 (wi f)
  tab : TabB wk
theorem Al.grow {w wk w' : World} {ga : Nat} {f : Nat → Bool} (h : Al w wk ga f) (b : Below wk.heap.size wk w') : Al w w' ga f :=
  ⟨h.bel.trans (b.mono h.bel.size), h.a.below b (h.a.lt (by omega)), h.tab.grow b⟩
/-- Its runs. -/
def Ru (w : World) (g : Nat) : Prop := w.cell? ⟨g, 0, none⟩ = some (.int .u8 97) ∧ w.cell? ⟨g, 1, none⟩ = some (.int .u8 99) ∧ w.cell? ⟨g, 2, none⟩ = some (.int .u8 120) ∧ w.cell? ⟨g, 3, none⟩ = some (.int .u8 120)
theorem Ru.grow {w w' : World} {g : Nat} (h : Ru w g) (b : Below w.heap.size w w') : Ru w' g := by
  have hg : g < w.heap.size := World.block_lt_of_cell? w _ h.1
  exact ⟨(b.cell (p := ⟨g, 0, none⟩) hg).trans h.1, (b.cell (p := ⟨g, 1, none⟩) hg).trans h.2.1, (b.cell (p := ⟨g, 2, none⟩) hg).trans h.2.2.1, (b.cell (p := ⟨g, 3, none⟩) hg).trans h.2.2.2⟩
theorem runsA (w : World) : Calls Tryd.prog 26 #[.agg #[.int .u64 ((wd (fA) 0 : Nat) : Int), .int .u64 ((wd (fA) 1 : Nat) : Int), .int .u64 ((wd (fA) 2 : Nat) : Int), .int .u64 ((wd (fA) 3 : Nat) : Int)]] w fun e w' => ∃ g cap, e = .returned (.slice (some ⟨g, 0, none⟩) 2 cap) ∧ Ru w' g ∧ Below w.heap.size w w' := by
  refine (runs_any fA w).mono ?_
  rintro e w' ⟨v, rfl, ho, hb⟩
  rw [fA_runs] at ho
  obtain ⟨g, cap, hv, _, _, hc, _⟩ := ownP_mem ho (by decide)
  exact ⟨g, cap, by rw [hv]; rfl, ⟨(hc 0 (by decide)).1, (hc 0 (by decide)).2, (hc 1 (by decide)).1, (hc 1 (by decide)).2⟩, hb⟩
theorem Sgl.ret {f : Nat → Bool} {b : Nat} {t : Bool} (h : Sgl f b t) {g : Nat} {w : World} (c : Calls Tryd.prog g #[.agg #[.int .u64 ((wd (f) 0 : Nat) : Int), .int .u64 ((wd (f) 1 : Nat) : Int), .int .u64 ((wd (f) 2 : Nat) : Int), .int .u64 ((wd (f) 3 : Nat) : Int)]] w fun e w' => (∃ (b : Nat) (t : Bool), Sgl f b t ∧ b < 256 ∧ e = .returned (.tuple #[.int .u8 (b : Int), .bool t])) ∧ Below w.heap.size w w') :
    Calls Tryd.prog g #[.agg #[.int .u64 ((wd (f) 0 : Nat) : Int), .int .u64 ((wd (f) 1 : Nat) : Int), .int .u64 ((wd (f) 2 : Nat) : Int), .int .u64 ((wd (f) 3 : Nat) : Int)]] w fun e w' => e = .returned (.tuple #[.int .u8 (b : Int), .bool t]) ∧ Below w.heap.size w w' := by
  refine c.mono ?_
  rintro e w' ⟨⟨b', t', hs, _, rfl⟩, hb⟩
  obtain ⟨rfl, rfl⟩ := hs.one h
  exact ⟨rfl, hb⟩

set_option maxHeartbeats 8000000 in
theorem alive_core (fA fX fF fR fO fN fM fZ : Nat → Bool)
    (hOfA : ∀ w : World, Calls Tryd.prog 10 #[.string ⟨#[97, 98, 99, 120]⟩] w fun e w' => e = .returned (.agg #[.int .u64 ((wd (fA) 0 : Nat) : Int), .int .u64 ((wd (fA) 1 : Nat) : Int), .int .u64 ((wd (fA) 2 : Nat) : Int), .int .u64 ((wd (fA) 3 : Nat) : Int)]) ∧ Below w.heap.size w w')
    (hOfX : ∀ w : World, Calls Tryd.prog 10 #[.string ⟨#[120]⟩] w fun e w' => e = .returned (.agg #[.int .u64 ((wd (fX) 0 : Nat) : Int), .int .u64 ((wd (fX) 1 : Nat) : Int), .int .u64 ((wd (fX) 2 : Nat) : Int), .int .u64 ((wd (fX) 3 : Nat) : Int)]) ∧ Below w.heap.size w w')
    (hsX : ∀ w : World, TabB w → Calls Tryd.prog 20 #[.agg #[.int .u64 ((wd (fX) 0 : Nat) : Int), .int .u64 ((wd (fX) 1 : Nat) : Int), .int .u64 ((wd (fX) 2 : Nat) : Int), .int .u64 ((wd (fX) 3 : Nat) : Int)]] w fun e w' => e = .returned (.tuple #[.int .u8 120, .bool true]) ∧ Below w.heap.size w w')
    (hsA : ∀ w : World, TabB w → Calls Tryd.prog 20 #[.agg #[.int .u64 ((wd (fA) 0 : Nat) : Int), .int .u64 ((wd (fA) 1 : Nat) : Int), .int .u64 ((wd (fA) 2 : Nat) : Int), .int .u64 ((wd (fA) 3 : Nat) : Int)]] w fun e w' => e = .returned (.tuple #[.int .u8 0, .bool false]) ∧ Below w.heap.size w w')
    (hru : ∀ w : World, Calls Tryd.prog 26 #[.agg #[.int .u64 ((wd (fA) 0 : Nat) : Int), .int .u64 ((wd (fA) 1 : Nat) : Int), .int .u64 ((wd (fA) 2 : Nat) : Int), .int .u64 ((wd (fA) 3 : Nat) : Int)]] w fun e w' => ∃ g cap, e = .returned (.slice (some ⟨g, 0, none⟩) 2 cap) ∧ Ru w' g ∧ Below w.heap.size w w')
    (h98 : ∀ w : World, Calls Tryd.prog 22 #[.agg #[.int .u64 ((wd (fA) 0 : Nat) : Int), .int .u64 ((wd (fA) 1 : Nat) : Int), .int .u64 ((wd (fA) 2 : Nat) : Int), .int .u64 ((wd (fA) 3 : Nat) : Int)], .int .u8 98] w fun e w' => e = .returned (.bool true) ∧ Below w.heap.size w w')
    (h100 : ∀ w : World, Calls Tryd.prog 22 #[.agg #[.int .u64 ((wd (fA) 0 : Nat) : Int), .int .u64 ((wd (fA) 1 : Nat) : Int), .int .u64 ((wd (fA) 2 : Nat) : Int), .int .u64 ((wd (fA) 3 : Nat) : Int)], .int .u8 100] w fun e w' => e = .returned (.bool false) ∧ Below w.heap.size w w')
    (hzA : ∀ w : World, Calls Tryd.prog 24 #[.agg #[.int .u64 ((wd (fA) 0 : Nat) : Int), .int .u64 ((wd (fA) 1 : Nat) : Int), .int .u64 ((wd (fA) 2 : Nat) : Int), .int .u64 ((wd (fA) 3 : Nat) : Int)]] w fun e w' => e = .returned (.int .i64 4) ∧ Below w.heap.size w w')
    (hF : ∀ w : World, Calls Tryd.prog 14 #[] w fun e w' => e = .returned (.agg #[.int .u64 ((wd (fF) 0 : Nat) : Int), .int .u64 ((wd (fF) 1 : Nat) : Int), .int .u64 ((wd (fF) 2 : Nat) : Int), .int .u64 ((wd (fF) 3 : Nat) : Int)]) ∧ Below w.heap.size w w')
    (hzF : ∀ w : World, Calls Tryd.prog 24 #[.agg #[.int .u64 ((wd (fF) 0 : Nat) : Int), .int .u64 ((wd (fF) 1 : Nat) : Int), .int .u64 ((wd (fF) 2 : Nat) : Int), .int .u64 ((wd (fF) 3 : Nat) : Int)]] w fun e w' => e = .returned (.int .i64 256) ∧ Below w.heap.size w w')
    (hR1 : ∀ w : World, Calls Tryd.prog 12 #[.int .u8 97, .int .u8 99] w fun e w' => e = .returned (.agg #[.int .u64 ((wd (fR) 0 : Nat) : Int), .int .u64 ((wd (fR) 1 : Nat) : Int), .int .u64 ((wd (fR) 2 : Nat) : Int), .int .u64 ((wd (fR) 3 : Nat) : Int)]) ∧ Below w.heap.size w w')
    (hOr : ∀ w : World, Calls Tryd.prog 18 #[.agg #[.int .u64 ((wd (fR) 0 : Nat) : Int), .int .u64 ((wd (fR) 1 : Nat) : Int), .int .u64 ((wd (fR) 2 : Nat) : Int), .int .u64 ((wd (fR) 3 : Nat) : Int)], .agg #[.int .u64 ((wd (fX) 0 : Nat) : Int), .int .u64 ((wd (fX) 1 : Nat) : Int), .int .u64 ((wd (fX) 2 : Nat) : Int), .int .u64 ((wd (fX) 3 : Nat) : Int)]] w fun e w' => e = .returned (.agg #[.int .u64 ((wd (fO) 0 : Nat) : Int), .int .u64 ((wd (fO) 1 : Nat) : Int), .int .u64 ((wd (fO) 2 : Nat) : Int), .int .u64 ((wd (fO) 3 : Nat) : Int)]) ∧ Below w.heap.size w w')
    (hN1 : ∀ w : World, Calls Tryd.prog 16 #[.agg #[.int .u64 ((wd (fA) 0 : Nat) : Int), .int .u64 ((wd (fA) 1 : Nat) : Int), .int .u64 ((wd (fA) 2 : Nat) : Int), .int .u64 ((wd (fA) 3 : Nat) : Int)]] w fun e w' => e = .returned (.agg #[.int .u64 ((wd (fN) 0 : Nat) : Int), .int .u64 ((wd (fN) 1 : Nat) : Int), .int .u64 ((wd (fN) 2 : Nat) : Int), .int .u64 ((wd (fN) 3 : Nat) : Int)]) ∧ Below w.heap.size w w')
    (hN2 : ∀ w : World, Calls Tryd.prog 16 #[.agg #[.int .u64 ((wd (fN) 0 : Nat) : Int), .int .u64 ((wd (fN) 1 : Nat) : Int), .int .u64 ((wd (fN) 2 : Nat) : Int), .int .u64 ((wd (fN) 3 : Nat) : Int)]] w fun e w' => e = .returned (.agg #[.int .u64 ((wd (fM) 0 : Nat) : Int), .int .u64 ((wd (fM) 1 : Nat) : Int), .int .u64 ((wd (fM) 2 : Nat) : Int), .int .u64 ((wd (fM) 3 : Nat) : Int)]) ∧ Below w.heap.size w w')
    (hR2 : ∀ w : World, Calls Tryd.prog 12 #[.int .u8 98, .int .u8 97] w fun e w' => e = .returned (.agg #[.int .u64 ((wd (fZ) 0 : Nat) : Int), .int .u64 ((wd (fZ) 1 : Nat) : Int), .int .u64 ((wd (fZ) 2 : Nat) : Int), .int .u64 ((wd (fZ) 3 : Nat) : Int)]) ∧ Below w.heap.size w w')
    (q1 : sm fO fA = true)
    (q2 : sm fM fA = true)
    (q3 : sm fZ (fun _ => false) = true) (w : World) (hT : TabB w) : Calls Tryd.prog 9 #[] w fun e w' => e = .returned (.bool true) ∧ Below w.heap.size w w' := by
  have HOfA : Hid _ := hOfA
  have HOfX : Hid _ := hOfX
  have HsX : Hid _ := hsX
  have HsA : Hid _ := hsA
  have Hru : Hid _ := hru
  have H98 : Hid _ := h98
  have H100 : Hid _ := h100
  have HzA : Hid _ := hzA
  have HF : Hid _ := hF
  have HzF : Hid _ := hzF
  have HR1 : Hid _ := hR1
  have HOr : Hid _ := hOr
  have HN1 : Hid _ := hN1
  have HN2 : Hid _ := hN2
  have HR2 : Hid _ := hR2
  have HT : Hid _ := hT
  clear hOfA hOfX hsX hsA hru h98 h100 hzA hF hzF hR1 hOr hN1 hN2 hR2 hT
  have c1 : Hid _ := HOfA.out w
  go_enter Tryd.func9, Tryd.ntmps9
  go_wp2_with fail
  refine Calls.mono (Hid.out c1) ?_; rintro e w1 ⟨rfl, b1⟩
  obtain ⟨w2, x2⟩ := box w1 fA
  have A2 : Hid (Al w w2 w1.heap.size fA) := ⟨b1.trans (x2.bel.mono b1.size), x2.fam, (TabB.grow HT.out b1).grow x2.bel⟩
  have E2 : Hid _ := x2.eq
  have c2 : Hid _ := HOfX.out w2
  obtain ⟨g, hg⟩ : ∃ g, w1.heap.size = g := ⟨_, rfl⟩
  have HG : Hid _ := hg
  rw [hg] at A2
  clear b1 x2 c1 HT hg
  go_wp2_with fail
  rw [← E2.out, HG.out]
  clear E2 HG
  refine Calls.mono (Hid.out c2) ?_; rintro e w3 ⟨rfl, b3⟩
  have A3 : Hid (Al w w3 g fA) := Al.grow A2.out b3
  have c3 : Hid _ := HsX.out w3 A3.out.tab
  clear b3 A2 c2
  go_wp2_with fail
  refine Calls.mono (Hid.out c3) ?_; rintro e w4 ⟨rfl, b4⟩
  have A4 : Hid (Al w w4 g fA) := Al.grow A3.out b4
  have c4' : Hid _ := HsA.out w4 A4.out.tab
  obtain ⟨a0, a1, a2, a3⟩ := c4 A4.out.a
  clear b4 A3 c3
  go_wp2_with fail
  refine Calls.mono (Hid.out c4') ?_; rintro e w5 ⟨rfl, b5⟩
  have A5 : Hid (Al w w5 g fA) := Al.grow A4.out b5
  have c5 : Hid _ := Hru.out w5
  clear b5 A4 c4' a0 a1 a2 a3
  obtain ⟨a0, a1, a2, a3⟩ := c4 A5.out.a
  go_wp2_with fail
  refine Calls.mono (Hid.out c5) ?_; rintro e w6 ⟨gu, cap, rfl, ru, b6⟩
  have AA : Hid (Al w w6 g fA) := Al.grow A5.out b6
  have RR : Hid (Ru w6 gu) := ru
  clear b6 A5 c5 a0 a1 a2 a3 ru
  obtain ⟨a0, a1, a2, a3⟩ := c4 AA.out.a
  obtain ⟨r0, r1, r2, r3⟩ := RR.out
  go_wp2_with fail
  dsimp only [List.append]
  go_region_held3 (fun w' => w'.cell? ⟨g, 0, none⟩ = some (.int .u64 ((wd fA 0 : Nat) : Int)) ∧ w'.cell? ⟨g, 1, none⟩ = some (.int .u64 ((wd fA 1 : Nat) : Int)) ∧ w'.cell? ⟨g, 2, none⟩ = some (.int .u64 ((wd fA 2 : Nat) : Int)) ∧ w'.cell? ⟨g, 3, none⟩ = some (.int .u64 ((wd fA 3 : Nat) : Int)) ∧ w'.cell? ⟨gu, 0, none⟩ = some (.int .u8 97) ∧ w'.cell? ⟨gu, 1, none⟩ = some (.int .u8 99) ∧ w'.cell? ⟨gu, 2, none⟩ = some (.int .u8 120) ∧ w'.cell? ⟨gu, 3, none⟩ = some (.int .u8 120)) (go_keep)
    (first | (go_at_call 22; first | ((with_reducible refine Calls.mono (H98.out _) ?_); rintro e vk ⟨rfl, bb⟩; have AB : Hid (Al w vk g fA) := Al.grow AA.out (by first | exact undrew bb | exact bb); have RB : Hid (Ru vk gu) := Ru.grow RR.out (by first | exact undrew bb | exact bb); clear bb AA RR a0 a1 a2 a3 r0 r1 r2 r3; have AA : Hid (Al w vk g fA) := AB.out; have RR : Hid (Ru vk gu) := RB.out; clear AB RB; obtain ⟨a0, a1, a2, a3⟩ := c4 AA.out.a; obtain ⟨r0, r1, r2, r3⟩ := RR.out) | ((with_reducible refine Calls.mono (H100.out _) ?_); rintro e vk ⟨rfl, bb⟩; have AB : Hid (Al w vk g fA) := Al.grow AA.out (by first | exact undrew bb | exact bb); have RB : Hid (Ru vk gu) := Ru.grow RR.out (by first | exact undrew bb | exact bb); clear bb AA RR a0 a1 a2 a3 r0 r1 r2 r3; have AA : Hid (Al w vk g fA) := AB.out; have RR : Hid (Ru vk gu) := RB.out; clear AB RB; obtain ⟨a0, a1, a2, a3⟩ := c4 AA.out.a; obtain ⟨r0, r1, r2, r3⟩ := RR.out)) | (go_at_call 24; first | ((with_reducible refine Calls.mono (HzA.out _) ?_); rintro e vk ⟨rfl, bb⟩; have AB : Hid (Al w vk g fA) := Al.grow AA.out (by first | exact undrew bb | exact bb); have RB : Hid (Ru vk gu) := Ru.grow RR.out (by first | exact undrew bb | exact bb); clear bb AA RR a0 a1 a2 a3 r0 r1 r2 r3; have AA : Hid (Al w vk g fA) := AB.out; have RR : Hid (Ru vk gu) := RB.out; clear AB RB; obtain ⟨a0, a1, a2, a3⟩ := c4 AA.out.a; obtain ⟨r0, r1, r2, r3⟩ := RR.out) | ((with_reducible refine Calls.mono (HzF.out _) ?_); rintro e vk ⟨rfl, bb⟩; have AB : Hid (Al w vk g fA) := Al.grow AA.out (by first | exact undrew bb | exact bb); have RB : Hid (Ru vk gu) := Ru.grow RR.out (by first | exact undrew bb | exact bb); clear bb AA RR a0 a1 a2 a3 r0 r1 r2 r3; have AA : Hid (Al w vk g fA) := AB.out; have RR : Hid (Ru vk gu) := RB.out; clear AB RB; obtain ⟨a0, a1, a2, a3⟩ := c4 AA.out.a; obtain ⟨r0, r1, r2, r3⟩ := RR.out)) | (go_at_call 14; (with_reducible refine Calls.mono (HF.out _) ?_); rintro e vk ⟨rfl, bb⟩; have AB : Hid (Al w vk g fA) := Al.grow AA.out (by first | exact undrew bb | exact bb); have RB : Hid (Ru vk gu) := Ru.grow RR.out (by first | exact undrew bb | exact bb); clear bb AA RR a0 a1 a2 a3 r0 r1 r2 r3; have AA : Hid (Al w vk g fA) := AB.out; have RR : Hid (Ru vk gu) := RB.out; clear AB RB; obtain ⟨a0, a1, a2, a3⟩ := c4 AA.out.a; obtain ⟨r0, r1, r2, r3⟩ := RR.out) | (go_at_call 12; first | ((with_reducible refine Calls.mono (HR1.out _) ?_); rintro e vk ⟨rfl, bb⟩; have AB : Hid (Al w vk g fA) := Al.grow AA.out (by first | exact undrew bb | exact bb); have RB : Hid (Ru vk gu) := Ru.grow RR.out (by first | exact undrew bb | exact bb); clear bb AA RR a0 a1 a2 a3 r0 r1 r2 r3; have AA : Hid (Al w vk g fA) := AB.out; have RR : Hid (Ru vk gu) := RB.out; clear AB RB; obtain ⟨a0, a1, a2, a3⟩ := c4 AA.out.a; obtain ⟨r0, r1, r2, r3⟩ := RR.out) | ((with_reducible refine Calls.mono (HR2.out _) ?_); rintro e vk ⟨rfl, bb⟩; have AB : Hid (Al w vk g fA) := Al.grow AA.out (by first | exact undrew bb | exact bb); have RB : Hid (Ru vk gu) := Ru.grow RR.out (by first | exact undrew bb | exact bb); clear bb AA RR a0 a1 a2 a3 r0 r1 r2 r3; have AA : Hid (Al w vk g fA) := AB.out; have RR : Hid (Ru vk gu) := RB.out; clear AB RB; obtain ⟨a0, a1, a2, a3⟩ := c4 AA.out.a; obtain ⟨r0, r1, r2, r3⟩ := RR.out)) | (go_at_call 10; (with_reducible refine Calls.mono (HOfX.out _) ?_); rintro e vk ⟨rfl, bb⟩; have AB : Hid (Al w vk g fA) := Al.grow AA.out (by first | exact undrew bb | exact bb); have RB : Hid (Ru vk gu) := Ru.grow RR.out (by first | exact undrew bb | exact bb); clear bb AA RR a0 a1 a2 a3 r0 r1 r2 r3; have AA : Hid (Al w vk g fA) := AB.out; have RR : Hid (Ru vk gu) := RB.out; clear AB RB; obtain ⟨a0, a1, a2, a3⟩ := c4 AA.out.a; obtain ⟨r0, r1, r2, r3⟩ := RR.out) | (go_at_call 18; (with_reducible refine Calls.mono (HOr.out _) ?_); rintro e vk ⟨rfl, bb⟩; have AB : Hid (Al w vk g fA) := Al.grow AA.out (by first | exact undrew bb | exact bb); have RB : Hid (Ru vk gu) := Ru.grow RR.out (by first | exact undrew bb | exact bb); clear bb AA RR a0 a1 a2 a3 r0 r1 r2 r3; have AA : Hid (Al w vk g fA) := AB.out; have RR : Hid (Ru vk gu) := RB.out; clear AB RB; obtain ⟨a0, a1, a2, a3⟩ := c4 AA.out.a; obtain ⟨r0, r1, r2, r3⟩ := RR.out) | (go_at_call 16; first | ((with_reducible refine Calls.mono (HN1.out _) ?_); rintro e vk ⟨rfl, bb⟩; have AB : Hid (Al w vk g fA) := Al.grow AA.out (by first | exact undrew bb | exact bb); have RB : Hid (Ru vk gu) := Ru.grow RR.out (by first | exact undrew bb | exact bb); clear bb AA RR a0 a1 a2 a3 r0 r1 r2 r3; have AA : Hid (Al w vk g fA) := AB.out; have RR : Hid (Ru vk gu) := RB.out; clear AB RB; obtain ⟨a0, a1, a2, a3⟩ := c4 AA.out.a; obtain ⟨r0, r1, r2, r3⟩ := RR.out) | ((with_reducible refine Calls.mono (HN2.out _) ?_); rintro e vk ⟨rfl, bb⟩; have AB : Hid (Al w vk g fA) := Al.grow AA.out (by first | exact undrew bb | exact bb); have RB : Hid (Ru vk gu) := Ru.grow RR.out (by first | exact undrew bb | exact bb); clear bb AA RR a0 a1 a2 a3 r0 r1 r2 r3; have AA : Hid (Al w vk g fA) := AB.out; have RR : Hid (Ru vk gu) := RB.out; clear AB RB; obtain ⟨a0, a1, a2, a3⟩ := c4 AA.out.a; obtain ⟨r0, r1, r2, r3⟩ := RR.out)))
  go_wp2_with fail
  go_ret
  exact ⟨rfl, AA.out.bel⟩

theorem alive_any (w : World) (hT : TabB w) : Calls Tryd.prog 9 #[] w fun e w' => e = .returned (.bool true) ∧ Below w.heap.size w w' := by
  have e1 : fA 98 = true := by decide +kernel
  have e2 : fA 100 = false := by decide +kernel
  exact alive_core fA fX (fun _ => true) (rg 97 100) (fun b => rg 97 100 b || fX b) (fun b => !fA b) (fun b => !(!fA b)) (rg 98 98) ofA ofX
    (fun w h => Sgl.ret fX_one (single_any fX w h)) (fun w h => Sgl.ret fA_not (single_any fA w h)) runsA
    (fun w => by have h := has_any fA 98 (by omega) w; rw [e1] at h; exact h) (fun w => by have h := has_any fA 100 (by omega) w; rw [e2] at h; exact h)
    (fun w => by have h := size_any fA w; rw [fA_size] at h; exact h) full_any (fun w => by have h := size_any (fun _ => true) w; rw [cb_all] at h; exact h)
    (fun w => range_any 97 99 (by omega) (by omega) w) (fun w => or_any _ _ w) (fun w => not_any _ w) (fun w => not_any _ w) (fun w => range_any 98 97 (by omega) (by omega) w)
    (sm_true (fun _ _ => rfl)) (sm_true (fun b _ => by simp)) (sm_true (fun b _ => by rw [rg_none (Nat.le_refl _)])) w hT
end Cls
end Go.Proofs.YtodjjajofiaehaaDoor
