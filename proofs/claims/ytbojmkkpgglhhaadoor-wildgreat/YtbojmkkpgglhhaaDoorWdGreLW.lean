/- The walk of 'beaglelaw10.WildGreat': it answers true; nothing that was there is turned. For the statement's proof. -/
import Derived.OpenShut
import Derived.ProofKit
import Derived.Test.YtbojmkkpgglhhaaDoorWdGre
namespace Go.Proofs.YtbojmkkpgglhhaaDoor.wildGreat
open Go.ChangeShapes Go.WideShapes Go.ChangeAt Go.RowKit Cls
set_option linter.unusedVariables false

set_option maxRecDepth 4000 in
set_option maxHeartbeats 4000000 in
theorem walk (b c : Nat) (m : Int) (w : World) (hb : b < 256) (hc : c < 256) (hm : (Lit.int .i64 m).wf = true) (hA : Tab w) (hT : TabB w) :
    Calls Tryd.prog 8 #[.int .u8 (b : Int), .int .u8 (c : Int), .int .i64 m] w fun e w' => e = .returned (.bool true) ∧ Below w.heap.size w w' := by
  have CA : Hid _ := fun (v : World) (hu : Tab v) (hv : TabB v) => alive10_any v hu hv
  have AT : Hid (Tab w ∧ TabB w) := ⟨hA, hT⟩
  by_cases hr : 1 ≤ m ∧ m ≤ 64
  · obtain ⟨h1I, h64I⟩ := hr
    obtain ⟨n, rfl⟩ : ∃ n : Nat, m = (n : Int) := ⟨m.toNat, by omega⟩
    have h1 : 1 ≤ n := by omega
    have h64 : n ≤ 64 := by omega
    obtain ⟨i0, hi, hz0, hz1, hz2⟩ := infoL
    have P0 : Hid (Pb w w (.slice none 0 0) (.slice none 0 0) 0 0 b c) := ⟨World.ownsRow_nil _ _ _ _, World.ownsRow_nil _ _ _ _, fun g h => by simp [Value.ownBlock] at h, Below.refl _ _⟩
    have hwe := rb_we b n h1 h64
    have CX : Hid (∀ v : World, Calls Tryd.prog 23 #[.string (rb b n), .int .i64 0] v fun e w' => (∃ bo d, e = .returned (.agg #[.slice bo n d, .int .i64 0]) ∧ Lf w' bo n (tx (rb b n))) ∧ Below v.heap.size v w') := fun v => by
      have h := text_any (rb b n) 0 v (by rw [rb_size]; omega)
      rw [rb_size] at h
      exact h
    have CS : Hid (∀ (v : World) (bo : Option Addr) (d : Nat), Tab v → TabB v → Lf v bo n (tx (rb b n)) → Calls Tryd.prog 15 #[.agg #[.slice bo n d, .int .i64 0], .string (rb c (2 * n)), .int .i64 128] v fun e w' => ∃ xo xc q, e = .returned (.tuple #[.slice xo (n + 1) xc, .int .i64 q, .int .i64 0]) ∧ Lies w' xo (n + 1) (fun i => ws (tx (rb b n)) (rb c (2 * n)) i n) ∧ Below v.heap.size v w') := fun v bo d h1 h2 h3 => by
      have h := wsums_any (tx (rb b n)) n d bo 0 128 (rb c (2 * n)) (by rw [rb_size]; omega) v h1 h2 h3
      rw [rb_size, hwe.1, hwe.2] at h
      exact h.mono (by rintro e w' ⟨xo, xc, rfl, hl, hb⟩; exact ⟨xo, xc, _, rfl, hl, hb⟩)
    have HX : Hid (∀ (d : Int), (d = (b : Int) - c ∨ d = (c : Int) - b) → ∀ i, i < n + 1 → ws (tx (rb b n)) (rb c (2 * n)) i n = (n : Int) * ((b : Int) + 1) * d * d) := fun d hd i hi => by
      rw [rb_ws b c n (2 * n) i hb hc n (Nat.le_refl _) (by omega), great_eq hd]
    have HV : Hid (∀ (v : Value) (u : World), u.ownsRow w.heap.size 5 1 v n (bb b n) → (convert 46 9 v).run Tryd.prog u = .ok (.string (rb b n)) u) := fun v u h => bb_text h h1 hb
    have HU : Hid (∀ (v : Value) (u : World), u.ownsRow w.heap.size 5 1 v (2 * n) (bb c (2 * n)) → (convert 46 9 v).run Tryd.prog u = .ok (.string (rb c (2 * n))) u) := fun v u h => bb_text h (by omega) hc
    have hb0 : (0 : Int) ≤ (b : Int) := by omega
    have hc0 : (0 : Int) ≤ (c : Int) := by omega
    have hb1 : (b : Int) ≤ 255 := by omega
    have hc1 : (c : Int) ≤ 255 := by omega
    clear hwe hA hT hm hb hc
    generalize rb b n = tb at *
    generalize rb c (2 * n) = tc at *
    go_enter Tryd.func8, Tryd.ntmps8
    go_wp2_with fail
    go_loopw [7, 8, 24] (fun va vb vi wr => ∃ i : Nat, i ≤ n ∧ vi = .int .i64 i ∧ Pb w wr va vb i (2 * i) b c) (fun _ _ vi _ => n - (intOf vi).toNat)
    case atStart => exact ⟨0, Nat.zero_le _, rfl, P0.out⟩
    case round =>
      obtain ⟨i, hin, rfl, hP⟩ := hrel
      have HP : Hid (Pb w wr u7 u8 i (2 * i) b c) := hP
      by_cases hlt : i < n
      · have hltI : (i : Int) < (n : Int) := by omega
        have hoa := hP.oa
        have hsz := hP.bel.size
        clear hP
        go_wp2_with (at_builtin; refine wpList_append_own_at _ rfl (.tmp 26) (.tmp 28) 46 rfl w.heap.size 5 i0 (.int .u8 0) 1 1 Tryd.underlying46 hi hz0 hz1 hz2 rfl (by decide) _ _ _ rfl (hoa.alloc _) ⟨wr.heap.size, 0, none⟩ 1 1 [.int .u8 (b : Int)] rfl rfl (cell_one_new _ _ _) (by intro u hu; simp at hu; subst hu; rfl) (by unfold maxLen; omega) (by omega) (by simp; omega) ?_)
        intro va' wa hown' hgrow _ hat
        have hP2 := HP.out.a hown' hgrow hat
        have HP2 : Hid (Pb w wa va' u8 (i + 1) (2 * i) b c) := hP2
        have hob := hP2.ob
        have hsza := hP2.bel.size
        clear hown' hgrow hat hP2 HP hoa hsz
        go_wp2_with (at_builtin; refine wpList_append_own_at _ rfl (.tmp 30) (.tmp 33) 46 rfl w.heap.size 5 i0 (.int .u8 0) 1 1 Tryd.underlying46 hi hz0 hz1 hz2 rfl (by decide) _ _ _ rfl (hob.alloc _) ⟨wa.heap.size, 0, none⟩ 2 2 [.int .u8 (c : Int), .int .u8 (c : Int)] rfl rfl (cell_two_new _ _ _ _) (by intro u hu; simp at hu; subst hu; rfl) (by unfold maxLen; omega) (by omega) (by simp; omega) ?_)
        intro vb' wb hown' hgrow _ hat
        have HP3 : Hid (Pb w wb va' vb' (i + 1) (2 * (i + 1)) b c) := HP2.out.b hown' hgrow hat
        clear hown' hgrow hat HP2 hob hsza
        go_wp2_with fail
        go_roundw
        case rel => exact ⟨i + 1, by omega, by go_num, HP3.out⟩
        case measure => simp [intOf]; omega
      · obtain rfl : i = n := by omega
        have hcv := HV.out u7 wr hP.oa
        have CX1 : Hid _ := CX.out wr
        have H1 : Hid (1 ≤ i ∧ i ≤ 64) := ⟨h1, h64⟩
        clear hP HV CX
        go_wp2_with fail
        refine Calls.mono (Hid.out CX1) ?_; rintro e w3 ⟨⟨bo, d, rfl, l3⟩, b3⟩
        obtain ⟨w4, x4⟩ := lbox w3 (.slice bo i d) (.int .i64 0)
        have E4 : Hid _ := x4.eq
        have b04 : Below w.heap.size w w4 := HP.out.bel.trans ((b3.trans (x4.bel.mono b3.size)).mono HP.out.bel.size)
        have T4 : Hid (Lx w w4 w3.heap.size bo i d (tx tb) 0) := ⟨b04, ⟨x4.c0, x4.c1⟩, l3.grow x4.bel, tab_grow AT.out.1 b04, AT.out.2.grow b04⟩
        have hcu := HU.out u8 w4 (Cls.owns_below (Cls.owns_below HP.out.ob b3 (Nat.le_refl _)) x4.bel (Nat.le_refl _))
        have CS1 : Hid _ := CS.out w4 bo d T4.out.ta T4.out.tb T4.out.l
        clear b3 l3 x4 b04 hcv CX1 HU CS AT HP P0
        obtain ⟨c0, c1⟩ := T4.out.c
        go_wp2_with (first | rw [← E4.out])
        refine Calls.mono (Hid.out CS1) ?_; rintro e w5 ⟨xo, xc, q, rfl, lx, b5⟩
        have T5 : Hid (Lx w w5 w3.heap.size bo i d (tx tb) 0) := Lx.grow T4.out b5
        have LX : Hid (Lies w5 xo (i + 1) (fun k => ws (tx tb) tc k i)) := lx
        have eN : (((i + 1 : Nat) : Int) == (i : Int) + 1) = true := by simp
        have eN2 : ((i + 1 : Nat) : Int) = (i : Int) + 1 := by omega
        clear b5 lx c0 c1 E4 T4 CS1 hcu
        have hD : ∃ D : Int, 0 ≤ D ∧ D ≤ 255 ∧ ((b < c ∧ (c : Int) - b = D) ∨ (b = c ∧ D = 0) ∨ (c < b ∧ (b : Int) - c = D)) := by
          rcases Nat.lt_trichotomy b c with h | h | h
          · exact ⟨(c : Int) - b, by omega, by omega, Or.inl ⟨h, rfl⟩⟩
          · exact ⟨0, by omega, by omega, Or.inr (Or.inl ⟨h, rfl⟩)⟩
          · exact ⟨(b : Int) - c, by omega, by omega, Or.inr (Or.inr ⟨h, rfl⟩)⟩
        obtain ⟨D, hD0, hD1, hD⟩ := hD
        have HF : Hid (∀ k, k < i + 1 → ws (tx tb) tc k i = (i : Int) * ((b : Int) + 1) * D * D) := HX.out D (by omega)
        obtain ⟨g0, g1, g2, g3, g4, g5⟩ := great_le h1I h64I hb0 hb1 hD0 hD1
        clear HX
        rcases hD with ⟨hlt', hd⟩ | ⟨hlt', hd⟩ | ⟨hlt', hd⟩
        · have hltI' : (b : Int) < (c : Int) := by omega
          go_wp2_with fail
          go_loopw [66] (fun vk wr => wr = w5 ∧ ∃ k : Nat, k ≤ i + 1 ∧ vk = .int .i64 k) (fun vk _ => i + 1 - (intOf vk).toNat)
          case atStart => exact ⟨by trivial, 0, Nat.zero_le _, rfl⟩
          case round =>
            obtain ⟨rfl, k, hk, rfl⟩ := hrel
            by_cases hki : k < i + 1
            · obtain ⟨g, o, rfl, hf⟩ := LX.out (by omega)
              have k1 : wr.cell? ⟨g, o + k, none⟩ = some (.int .u64 (ws (tx tb) tc k i)) := hf k hki
              have k2 := HF.out k hki
              rw [k2] at k1
              have hkI : (k : Int) < (i : Int) + 1 := by omega
              clear hf k2
              go_wp2_with fail
              go_roundw
              case rel => exact ⟨by trivial, k + 1, by omega, by go_num⟩
              case measure => simp [intOf]; omega
            · have CA5 : Hid _ := CA.out wr T5.out.ta T5.out.tb
              have hkI : ¬ (k : Int) < (i : Int) + 1 := by omega
              clear CA LX HF
              go_wp2_with fail
              refine Calls.mono (Hid.out CA5) ?_; rintro e w6 ⟨rfl, b6⟩
              have T6 : Hid (Lx w w6 w3.heap.size bo i d (tx tb) 0) := Lx.grow T5.out b6
              clear b6 T5 CA5
              go_wp2_with fail
              go_ret
              exact ⟨rfl, T6.out.bel⟩
        · subst hlt' hd
          go_wp2_with fail
          go_loopw [66] (fun vk wr => wr = w5 ∧ ∃ k : Nat, k ≤ i + 1 ∧ vk = .int .i64 k) (fun vk _ => i + 1 - (intOf vk).toNat)
          case atStart => exact ⟨by trivial, 0, Nat.zero_le _, rfl⟩
          case round =>
            obtain ⟨rfl, k, hk, rfl⟩ := hrel
            by_cases hki : k < i + 1
            · obtain ⟨g, o, rfl, hf⟩ := LX.out (by omega)
              have k1 : wr.cell? ⟨g, o + k, none⟩ = some (.int .u64 (ws (tx tb) tc k i)) := hf k hki
              have k2 := HF.out k hki
              rw [k2] at k1
              have hkI : (k : Int) < (i : Int) + 1 := by omega
              clear hf k2
              go_wp2_with fail
              go_roundw
              case rel => exact ⟨by trivial, k + 1, by omega, by go_num⟩
              case measure => simp [intOf]; omega
            · have CA5 : Hid _ := CA.out wr T5.out.ta T5.out.tb
              have hkI : ¬ (k : Int) < (i : Int) + 1 := by omega
              clear CA LX HF
              go_wp2_with fail
              refine Calls.mono (Hid.out CA5) ?_; rintro e w6 ⟨rfl, b6⟩
              have T6 : Hid (Lx w w6 w3.heap.size bo i d (tx tb) 0) := Lx.grow T5.out b6
              clear b6 T5 CA5
              go_wp2_with fail
              go_ret
              exact ⟨rfl, T6.out.bel⟩
        · have hltI' : (c : Int) < (b : Int) := by omega
          go_wp2_with fail
          go_loopw [66] (fun vk wr => wr = w5 ∧ ∃ k : Nat, k ≤ i + 1 ∧ vk = .int .i64 k) (fun vk _ => i + 1 - (intOf vk).toNat)
          case atStart => exact ⟨by trivial, 0, Nat.zero_le _, rfl⟩
          case round =>
            obtain ⟨rfl, k, hk, rfl⟩ := hrel
            by_cases hki : k < i + 1
            · obtain ⟨g, o, rfl, hf⟩ := LX.out (by omega)
              have k1 : wr.cell? ⟨g, o + k, none⟩ = some (.int .u64 (ws (tx tb) tc k i)) := hf k hki
              have k2 := HF.out k hki
              rw [k2] at k1
              have hkI : (k : Int) < (i : Int) + 1 := by omega
              clear hf k2
              go_wp2_with fail
              go_roundw
              case rel => exact ⟨by trivial, k + 1, by omega, by go_num⟩
              case measure => simp [intOf]; omega
            · have CA5 : Hid _ := CA.out wr T5.out.ta T5.out.tb
              have hkI : ¬ (k : Int) < (i : Int) + 1 := by omega
              clear CA LX HF
              go_wp2_with fail
              refine Calls.mono (Hid.out CA5) ?_; rintro e w6 ⟨rfl, b6⟩
              have T6 : Hid (Lx w w6 w3.heap.size bo i d (tx tb) 0) := Lx.grow T5.out b6
              clear b6 T5 CA5
              go_wp2_with fail
              go_ret
              exact ⟨rfl, T6.out.bel⟩
  · have hrI : m < 1 ∨ (¬ m < 1 ∧ 64 < m) := by omega
    have CA1 : Hid _ := CA.out w AT.out.1 AT.out.2
    clear hr CA
    rcases hrI with h | ⟨h, h'⟩
    all_goals
      go_enter Tryd.func8, Tryd.ntmps8
      go_wp2_with fail
      refine Calls.mono (Hid.out CA1) ?_; rintro e w3 ⟨rfl, b3⟩
      have B3 : Hid (Below w.heap.size w w3) := b3
      clear b3 CA1
      go_wp2_with fail
      go_ret
      exact ⟨rfl, B3.out⟩

end Go.Proofs.YtbojmkkpgglhhaaDoor.wildGreat
