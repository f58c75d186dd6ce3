/- Contract of token.Element: a class's text. -/
import Derived.Test.YtbnnobeahliffaaGreatDoorTkWr2
import Derived.Test.YtbnnobeahliffaaGreatDoorClsA
set_option linter.unusedVariables false
namespace Go.Proofs.YtbnnobeahliffaaGreatDoor
open Go.RowKit
namespace Cls

/-- A class in a box on the way. -/
structure Bw (w wk : World) (f : Nat → Bool) : Prop where
  bel : Below w.heap.size w wk
  lt : w.heap.size < wk.heap.size
  fam : Fam wk w.heap.size 0 4 (wi f)
  tb : TabB wk

theorem Bw.grow {w wk v : World} {f : Nat → Bool} (h : Bw w wk f) (b : Below wk.heap.size wk v) : Bw w v f :=
  ⟨h.bel.trans (b.mono h.bel.size), Nat.lt_of_lt_of_le h.lt b.size, h.fam.below b h.lt, h.tb.grow b⟩

theorem bw_new (w : World) (f : Nat → Bool) (hT : TabB w) : Bw w (w.alloc (.cells #[.int .u64 ((wd (f) 0 : Nat) : Int), .int .u64 ((wd (f) 1 : Nat) : Int), .int .u64 ((wd (f) 2 : Nat) : Int), .int .u64 ((wd (f) 3 : Nat) : Int)] 67)) f := by
  obtain ⟨v, hb⟩ := box w f
  have e := hb.eq
  subst e
  exact ⟨hb.bel, by have := hb.size; omega, hb.fam, hT.grow hb.bel⟩

theorem elt_one {f : Nat → Bool} (h0 : cb f 0 256 ≠ 0) (h1 : cb f 0 256 ≠ 256) (hs : sg f = true) : elt f = some (wrt (bt f) aptE) := by
  unfold elt
  rw [if_neg h0, if_neg h1, if_pos hs]

theorem elt_runs {f : Nat → Bool} (h0 : cb f 0 256 ≠ 0) (h1 : cb f 0 256 ≠ 256) (hs : sg f = false) : elt f = some (91 :: (runs1 (rr f 256) ++ [93])) := by
  unfold elt
  rw [if_neg h0, if_neg h1, if_neg (by rw [hs]; decide)]

theorem elt_zero {f : Nat → Bool} (h0 : cb f 0 256 = 0) : elt f = none := by
  unfold elt
  rw [if_pos h0]

theorem sg_some {f : Nat → Bool} (h : sg f = true) : cb f 0 256 ≠ 0 := by
  unfold sg at h
  have : cb f 0 256 = 1 := by simpa using h
  omega

theorem rr_nil {f : Nat → Bool} (h : cb f 0 256 = 0) : rr f 256 = [] := by
  have hz : ∀ x, x < 256 → f x = false := (cb_none f 256).1 h
  have : ∀ n, n ≤ 256 → rr f n = [] := by
    intro n
    induction n with
    | zero => intro _; exact rr_zero f
    | succ n ih => intro hn; rw [rr_not (hz n (by omega))]; exact ih (by omega)
  exact this 256 (Nat.le_refl _)

/-- What is told of a class's text. -/
def Rdx (r : Option (List Nat)) (e : Ending) : Prop := e = .returned (.tuple #[.string (tbs (r.getD [])), .bool r.isSome])

set_option maxRecDepth 100000 in
set_option maxHeartbeats 4000000 in
theorem elementS_any (f : Nat → Bool) (w : World) (hT : TabB w) :
    Calls Tryz.prog 85 #[.agg #[.int .u64 ((wd (f) 0 : Nat) : Int), .int .u64 ((wd (f) 1 : Nat) : Int), .int .u64 ((wd (f) 2 : Nat) : Int), .int .u64 ((wd (f) 3 : Nat) : Int)]] w fun e w' => Rdx (elt f) e ∧ Below w.heap.size w w' := by
  obtain ⟨w1, e1⟩ : ∃ w1, w1 = w.alloc (.cells #[.int .u64 ((wd (f) 0 : Nat) : Int), .int .u64 ((wd (f) 1 : Nat) : Int), .int .u64 ((wd (f) 2 : Nat) : Int), .int .u64 ((wd (f) 3 : Nat) : Int)] 67) := ⟨_, rfl⟩
  have hb := bw_new w f hT
  rw [← e1] at hb
  have E1 : Hid _ := e1
  have DW : Hid (Bw w w1 f) := hb
  obtain ⟨a0, a1, a2, a3⟩ := c4 hb.fam
  have CF : Hid _ := fun (v : World) => full_any v
  clear e1 hb hT
  go_enter Tryz.func85, Tryz.ntmps85
  go_wp2_with (first | rw [← E1.out])
  try rw [← E1.out]
  go_cut [12] (fun v12 wc => v12 = .bool (sm f (fun _ => true)) ∧ Bw w wc f)
  case first =>
    go_region_held3 (fun w' => w'.cell? ⟨w.heap.size, 0, none⟩ = some (.int .u64 ((wd f 0 : Nat) : Int)) ∧ w'.cell? ⟨w.heap.size, 1, none⟩ = some (.int .u64 ((wd f 1 : Nat) : Int)) ∧ w'.cell? ⟨w.heap.size, 2, none⟩ = some (.int .u64 ((wd f 2 : Nat) : Int)) ∧ w'.cell? ⟨w.heap.size, 3, none⟩ = some (.int .u64 ((wd f 3 : Nat) : Int))) (go_keep)
      (first | (go_at_call 91; (with_reducible refine Calls.mono (CF.out _) ?_); rintro e w3 ⟨rfl, b3⟩; have b3' : Below w1.heap.size w1 w3 := (by first | exact undrew b3 | exact b3); have D3 : Hid (Bw w w3 f) := DW.out.grow b3'; obtain ⟨m0, m1, m2, m3⟩ := c4 D3.out.fam; clear b3 b3'))
    all_goals
      go_wp2_with fail
      go_meet
      exact ⟨rfl, by first | exact D3.out | exact DW.out⟩
  case rest =>
    obtain ⟨rfl, dw⟩ := hcut
    have D2 : Hid (Bw w wc f) := dw
    clear DW a0 a1 a2 a3 E1 dw
    cases hfu : sm f (fun _ => true) with
    | true =>
      have HF : Hid _ := elt_full hfu
      go_wp2_with fail
      refine bodyPost_ret (results_tmp2 rfl _ _ _) rfl ?_
      exact ⟨by unfold Rdx; rw [HF.out]; rfl, D2.out.bel⟩
    | false =>
      have h256 := elt_not hfu
      obtain ⟨a0, a1, a2, a3⟩ := c4 D2.out.fam
      have CS : Hid _ := single_any f wc D2.out.tb
      go_wp2_with fail
      refine Calls.mono CS.out ?_; rintro e w3 ⟨⟨b, t, hsg, hbl, rfl⟩, b3⟩
      have D3 : Hid (Bw w w3 f) := D2.out.grow b3
      obtain ⟨hb, ht⟩ := sgl_eq hsg
      clear D2 b3 CS hsg a0 a1 a2 a3
      cases hs : t with
      | true =>
        rw [ht] at hs
        have HF : Hid _ := elt_one (sg_some hs) h256 hs
        rw [← hb] at HF
        have CW : Hid _ := fun (v : World) => written_any elT aptE (fun b hb => fpos_el hb) b hbl v
        unfold elT at CW
        obtain ⟨tx, htx⟩ : ∃ tx, tbs (wrt b aptE) = tx := ⟨_, rfl⟩
        rw [htx] at CW
        clear hs ht hb h256 hfu
        go_wp2_with fail
        refine Calls.mono (CW.out w3) ?_; rintro e w4 ⟨rfl, b4⟩
        have D4 : Hid (Bw w w4 f) := D3.out.grow b4
        clear b4
        go_wp2_with fail
        refine bodyPost_ret (results_tmp2 rfl _ _ _) rfl ?_
        exact ⟨by unfold Rdx; rw [HF.out, ← htx]; rfl, D4.out.bel⟩
      | false =>
        rw [ht] at hs
        obtain ⟨a0, a1, a2, a3⟩ := c4 D3.out.fam
        have CR : Hid _ := runs_any f w3
        clear ht hb hbl hfu
        go_wp2_with fail
        refine Calls.mono CR.out ?_; rintro e w4 ⟨v, rfl, ho, b4⟩
        have D4 : Hid (Bw w w4 f) := D3.out.grow b4
        obtain ⟨ao, c, rfl, hrd⟩ := ownP_read ho
        have HRD : Hid _ := hrd
        clear D3 b4 CR ho hrd a0 a1 a2 a3
        by_cases h0 : cb f 0 256 = 0
        · have HF : Hid _ := elt_zero h0
          rw [rr_nil h0]
          simp only [List.length_nil]
          clear HRD h0 hs h256
          go_wp2_with fail
          refine bodyPost_ret (results_tmp2 rfl _ _ _) rfl ?_
          exact ⟨by unfold Rdx; rw [HF.out]; rfl, D4.out.bel⟩
        · have HF : Hid _ := elt_runs h0 h256 hs
          have hne : (rr f 256).length ≠ 0 := fun e => rr_some h0 (List.length_eq_zero_iff.1 e)
          have hl256 := rr_len f 256
          have HLT : Hid _ := rr_lt f 256
          clear h0 h256 hs
          obtain ⟨L, hL⟩ : ∃ L, rr f 256 = L := ⟨_, rfl⟩
          rw [hL] at HRD hne hl256 HLT HF ⊢
          clear hL
          obtain ⟨n, hn⟩ : ∃ n, L.length = n := ⟨_, rfl⟩
          have HN : Hid (L.length = n) := hn
          rw [hn] at hne hl256 ⊢
          clear hn
          have hneI : ((n : Int) == 0) = false := beq_eq_false_iff_ne.2 (by omega)
          go_wp2_with fail
          go_loopw [7, 28] (fun vt vk wr => Below w4.heap.size w4 wr ∧ ∃ k : Nat, k ≤ n ∧ vk = .int .i64 (k : Int) ∧ vt = .string (tbs (91 :: runs1 (L.take k)))) (fun _ vk _ => n - (intOf vk).toNat)
          case atStart => exact ⟨Below.refl _ _, 0, Nat.zero_le _, rfl, rfl⟩
          case round =>
            obtain ⟨hbel, k, hk, rfl, rfl⟩ := hrel
            have HB : Hid (Below w4.heap.size w4 wr) := hbel
            have hlt := runs1_le (L.take k)
            rw [List.length_take] at hlt
            clear hbel
            by_cases hkn : k < n
            · have hkI : (k : Int) < (n : Int) := by omega
              have hkL : k < L.length := by rw [HN.out]; exact hkn
              obtain ⟨g, rfl, c0, c1⟩ := HRD.out wr HB.out k hkL
              obtain ⟨r, hr⟩ : ∃ r, L[k] = r := ⟨_, rfl⟩
              have hrl : r.1 ≤ r.2 ∧ r.2 < 256 := by rw [← hr]; exact HLT.out _ (List.getElem_mem hkL)
              rw [hr] at c0 c1
              have HTK : Hid (runs1 (L.take (k + 1)) = runs1 (L.take k) ++ run1 r) := by show _ = _; rw [runs1_take L k hkL, hr]
              have CW : Hid _ := fun (v : World) => writtenRun_any r.1 r.2 hrl.1 hrl.2 v
              have h9 := run1_le r
              have AD := add_tbs (91 :: runs1 (L.take k)) (run1 r) (by simp; omega)
              have HT2 : Hid ((91 :: runs1 (L.take k)) ++ run1 r = 91 :: runs1 (L.take (k + 1))) := by show _ = _; rw [HTK.out]; rfl
              rw [HT2.out] at AD
              have HTX : Hid (∃ t3, tbs (91 :: runs1 (L.take (k + 1))) = t3) := ⟨_, rfl⟩
              rw [show (r.1, r.2) = r from rfl] at CW
              generalize tbs (run1 r) = u at *
              obtain ⟨t3, ht3⟩ := HTX.out
              have HT3 : Hid _ := ht3
              rw [ht3] at AD
              generalize tbs (91 :: runs1 (L.take k)) = t at *
              obtain ⟨x, y⟩ := r
              simp only at c0 c1 CW hrl
              clear ht3 HTX HT2 HTK hr
              have hx : (x : Int) < 256 := by omega
              have hy : (y : Int) < 256 := by omega
              obtain ⟨w5, e5⟩ : ∃ w5, w5 = wr.alloc (.cells #[.int .u8 (x : Int), .int .u8 (y : Int)] 123) := ⟨_, rfl⟩
              have hb5 : w5.heap[wr.heap.size]? = some (.cells #[.int .u8 (x : Int), .int .u8 (y : Int)] 123) := by rw [e5]; exact World.alloc_heap_new wr _
              have d0 : w5.cell? ⟨wr.heap.size, 0, none⟩ = some (.int .u8 (x : Int)) := by unfold World.cell?; rw [hb5]; rfl
              have d1 : w5.cell? ⟨wr.heap.size, 1, none⟩ = some (.int .u8 (y : Int)) := by unfold World.cell?; rw [hb5]; rfl
              have HB5 : Hid (Below w4.heap.size w4 w5) := by show Below _ _ _; rw [e5]; exact HB.out.alloc HB.out.size _
              have E5 : Hid _ := e5
              clear e5 hb5 HB
              go_wp2_with (first | rw [← E5.out])
              refine Calls.mono (CW.out w5) ?_; rintro e w6 ⟨rfl, b6⟩
              have HB6 : Hid (Below w4.heap.size w4 w6) := HB5.out.trans (b6.mono HB5.out.size)
              clear b6 d0 d1 E5 c0 c1
              go_wp2_with fail
              go_roundw
              case rel => exact ⟨HB6.out, k + 1, by omega, by go_num, by rw [← HT3.out]⟩
              case measure => simp [intOf]; omega
            · obtain rfl : k = n := by omega
              have hkI : ¬ (k : Int) < (k : Int) := by omega
              have e : L.take k = L := by rw [List.take_of_length_le (by rw [HN.out]; exact Nat.le_refl _)]
              rw [e] at hlt ⊢
              have hl9 := runs1_le L
              have AD := add_tbs (91 :: runs1 L) [93] (by simp; omega)
              rw [show tbs [93] = ⟨#[93]⟩ from rfl] at AD
              have HFT : Hid (tbs ((elt f).getD []) = tbs ((91 :: runs1 L) ++ [93]) ∧ (elt f).isSome = true) := by
                show _ ∧ _
                rw [HF.out]
                exact ⟨rfl, rfl⟩
              generalize tbs ((91 :: runs1 L) ++ [93]) = t2 at *
              generalize tbs (91 :: runs1 L) = t at *
              have BR : Hid (Below w.heap.size w wr) := D4.out.bel.trans (HB.out.mono D4.out.bel.size)
              clear e HRD HLT
              go_wp2_with fail
              refine bodyPost_ret (results_tmp2 rfl _ _ _) rfl ?_
              exact ⟨by unfold Rdx; rw [HFT.out.1, HFT.out.2]; rfl, BR.out⟩

end Cls
end Go.Proofs.YtbnnobeahliffaaGreatDoor
