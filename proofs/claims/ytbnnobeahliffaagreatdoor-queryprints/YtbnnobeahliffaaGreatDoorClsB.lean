/- The runs of a set of bytes: plain; and rows of pairs of bytes in memory. Nothing of the program but its types' numbers. Contracts of class.Runs and of the document's Runs. Contract of the document's Runs. -/
import Derived.Test.YtbnnobeahliffaaGreatDoorClsA

namespace Go.Proofs.YtbnnobeahliffaaGreatDoor
open Go.RowKit
namespace Cls

/-- The runs of f among the first n. -/
def rr (f : Nat → Bool) : Nat → List (Nat × Nat)
  | 0 => []
  | n + 1 => if f n = true then (if n = 0 ∨ f (n - 1) = false then rr f n ++ [(n, n)] else (rr f n).dropLast ++ [(((rr f n).getLastD (0, 0)).1, n)]) else rr f n
  termination_by n => n

theorem rr_zero (f : Nat → Bool) : rr f 0 = [] := by unfold rr; rfl

theorem rr_not {f : Nat → Bool} {n : Nat} (h : f n = false) : rr f (n + 1) = rr f n := by rw [rr, h]; simp

theorem rr_new {f : Nat → Bool} {n : Nat} (h : f n = true) (hp : n = 0 ∨ f (n - 1) = false) : rr f (n + 1) = rr f n ++ [(n, n)] := by rw [rr, if_pos h, if_pos hp]

theorem rr_more {f : Nat → Bool} {n : Nat} (h : f (n + 1) = true) (hp : f n = true) {L : List (Nat × Nat)} {a : Nat} (e : rr f (n + 1) = L ++ [(a, n)]) : rr f (n + 2) = L ++ [(a, n + 1)] := by
  rw [rr, if_pos h, if_neg (by simp [hp]), e]
  simp

theorem rr_last {f : Nat → Bool} : ∀ {n : Nat}, f n = true → ∃ L a, rr f (n + 1) = L ++ [(a, n)] ∧ a ≤ n
  | 0, h => ⟨_, 0, rr_new h (Or.inl rfl), Nat.le_refl _⟩
  | n + 1, h => by
    cases hp : f n with
    | false => exact ⟨_, n + 1, rr_new h (Or.inr (by simpa using hp)), Nat.le_refl _⟩
    | true =>
      obtain ⟨L, a, e, ha⟩ := rr_last (n := n) hp
      exact ⟨L, a, rr_more h hp e, by omega⟩

theorem rr_run {f : Nat → Bool} {p : Nat} (hp : p = 0 ∨ f (p - 1) = false) : ∀ q, (∀ x, p ≤ x → x ≤ p + q → f x = true) → rr f (p + q + 1) = rr f p ++ [(p, p + q)]
  | 0, h => rr_new (h p (by omega) (by omega)) hp
  | q + 1, h => rr_more (h (p + q + 1) (by omega) (by omega)) (h (p + q) (by omega) (by omega)) (rr_run hp q (fun x h1 h2 => h x h1 (by omega)))

theorem rr_lt (f : Nat → Bool) : ∀ n, ∀ x, x ∈ rr f n → x.1 ≤ x.2 ∧ x.2 < n
  | 0, x, hx => by rw [rr_zero] at hx; cases hx
  | n + 1, x, hx => by
    cases h : f n with
    | false => rw [rr_not h] at hx; have := rr_lt f n x hx; omega
    | true =>
      cases n with
      | zero => rw [rr_new h (Or.inl rfl), rr_zero] at hx; simp at hx; subst hx; simp
      | succ n =>
        cases hp : f n with
        | false =>
          rw [rr_new h (Or.inr (by simpa using hp))] at hx
          rcases List.mem_append.1 hx with hx | hx
          · have := rr_lt f (n + 1) x hx; omega
          · simp at hx; subst hx; simp
        | true =>
          obtain ⟨L, a, e, ha⟩ := rr_last (n := n) hp
          have ih := rr_lt f (n + 1)
          rw [rr_more h hp e] at hx
          rw [e] at ih
          rcases List.mem_append.1 hx with hx | hx
          · have := ih x (List.mem_append_left _ hx); omega
          · simp at hx; subst hx; simp; omega

theorem rr_len (f : Nat → Bool) : ∀ n, (rr f n).length ≤ n
  | 0 => by rw [rr_zero]; simp
  | n + 1 => by
    have ih := rr_len f n
    cases h : f n with
    | false => rw [rr_not h]; omega
    | true =>
      cases n with
      | zero => rw [rr_new h (Or.inl rfl), rr_zero]; simp
      | succ n =>
        cases hp : f n with
        | false => rw [rr_new h (Or.inr (by simpa using hp))]; simp; omega
        | true =>
          obtain ⟨L, a, e, ha⟩ := rr_last (n := n) hp
          rw [rr_more h hp e]
          rw [e] at ih
          simp at ih ⊢
          omega

/-- The ranges of a list of pairs, together. -/
def un (L : List (Nat × Nat)) (x : Nat) : Bool := L.any (fun p => rg p.1 (p.2 + 1) x)

theorem un_rr (f : Nat → Bool) : ∀ n x, un (rr f n) x = (decide (x < n) && f x)
  | 0, x => by rw [rr_zero]; simp [un]
  | n + 1, x => by
    have ih := un_rr f n x
    have hd : x ≠ n → decide (x < n + 1) = decide (x < n) := fun e => by
      by_cases h : x < n
      · rw [decide_eq_true h, decide_eq_true (by omega)]
      · rw [decide_eq_false h, decide_eq_false (by omega)]
    have one : ∀ a b, rg a (b + 1) x = (decide (a ≤ x) && decide (x ≤ b)) := fun a b => by
      unfold rg; congr 1
      by_cases h : x ≤ b
      · rw [decide_eq_true h, decide_eq_true (by omega)]
      · rw [decide_eq_false h, decide_eq_false (by omega)]
    cases h : f n with
    | false =>
      rw [rr_not h, ih]
      by_cases e : x = n
      · subst e; simp [h]
      · rw [hd e]
    | true =>
      have new : un (rr f n ++ [(n, n)]) x = (decide (x < n + 1) && f x) := by
        unfold un at ih ⊢
        rw [List.any_append, ih]
        simp only [List.any_cons, List.any_nil, Bool.or_false, one]
        by_cases e : x = n
        · subst e; simp [h]
        · rw [hd e]
          have : (decide (n ≤ x) && decide (x ≤ n)) = false := by
            by_cases h1 : n ≤ x
            · rw [decide_eq_false (show ¬ x ≤ n by omega)]; simp
            · rw [decide_eq_false h1]; simp
          rw [this, Bool.or_false]
      cases n with
      | zero => rw [rr_new h (Or.inl rfl)]; exact new
      | succ n =>
        cases hp : f n with
        | false => rw [rr_new h (Or.inr (by simpa using hp))]; exact new
        | true =>
          obtain ⟨L, a, e, ha⟩ := rr_last (n := n) hp
          rw [rr_more h hp e]
          rw [e] at ih
          unfold un at ih ⊢
          rw [List.any_append] at ih ⊢
          simp only [List.any_cons, List.any_nil, Bool.or_false, one] at ih ⊢
          by_cases e2 : x = n + 1
          · subst e2
            rw [decide_eq_true (show a ≤ n + 1 by omega)]
            simp [h]
          · rw [hd e2, ← ih]
            congr 2
            by_cases h3 : x ≤ n
            · rw [decide_eq_true h3, decide_eq_true (by omega)]
            · rw [decide_eq_false h3, decide_eq_false (by omega)]

theorem un_take (L : List (Nat × Nat)) (k : Nat) (h : k < L.length) : un (L.take (k + 1)) = fun x => un (L.take k) x || rg L[k].1 (L[k].2 + 1) x := by
  funext x
  unfold un
  rw [List.take_succ_eq_append_getElem h, List.any_append]
  simp

/-- The cells of a list of pairs. -/
def prs (L : List (Nat × Nat)) : List Value := L.flatMap fun p => [.int .u8 (p.1 : Int), .int .u8 (p.2 : Int)]

theorem prs_len (L : List (Nat × Nat)) : (prs L).length = L.length * 2 := by
  induction L with
  | nil => rfl
  | cons p L ih => simp [prs] at ih ⊢; omega

theorem prs_append (L M : List (Nat × Nat)) : prs (L ++ M) = prs L ++ prs M := by simp [prs]

theorem prs_at (L : List (Nat × Nat)) (k : Nat) (h : k < L.length) : (prs L)[2 * k]? = some (.int .u8 (L[k].1 : Int)) ∧ (prs L)[2 * k + 1]? = some (.int .u8 (L[k].2 : Int)) := by
  have e : L = L.take k ++ ([L[k]] ++ L.drop (k + 1)) := by
    rw [← List.append_assoc, ← List.take_succ_eq_append_getElem h, List.take_append_drop]
  have hl : (prs (L.take k)).length = 2 * k := by rw [prs_len, List.length_take]; omega
  have e2 : prs L = prs (L.take k) ++ ([.int .u8 (L[k].1 : Int), .int .u8 (L[k].2 : Int)] ++ prs (L.drop (k + 1))) := by
    conv => lhs; rw [e]
    rw [prs_append, prs_append]
    rfl
  rw [e2]
  constructor
  · rw [List.getElem?_append_right (by omega), hl, Nat.sub_self]; rfl
  · rw [List.getElem?_append_right (by omega), hl, show 2 * k + 1 - 2 * k = 1 by omega]; rfl

def OwnP (w : World) (B : Nat) (v : Value) (L : List (Nat × Nat)) : Prop := w.ownsRow B 123 2 v L.length (prs L)

theorem ownP_nil (w : World) (B : Nat) : OwnP w B (.slice none 0 0) [] := World.ownsRow_nil _ _ _ _

theorem ownP_slice {w : World} {B : Nat} {v : Value} {L : List (Nat × Nat)} (h : OwnP w B v L) : ∃ ao c, v = .slice ao L.length c := by
  obtain ⟨_, ⟨e, e2⟩ | ⟨g', cap, cur, hv, _⟩⟩ := h
  · exact ⟨none, 0, by rw [e, e2]⟩
  · exact ⟨_, _, hv⟩

theorem ownP_mono {w : World} {B C : Nat} {v : Value} {L : List (Nat × Nat)} (h : OwnP w B v L) (hC : C ≤ B) : OwnP w C v L := by
  obtain ⟨hl, h | ⟨g, cap, cur, hv, hg, r⟩⟩ := h
  · exact ⟨hl, Or.inl h⟩
  · exact ⟨hl, Or.inr ⟨g, cap, cur, hv, by omega, r⟩⟩

/-- The last pair's second byte, turned. -/
theorem ownP_set {w : World} {B g cap : Nat} {L : List (Nat × Nat)} {a b : Nat} (h : OwnP w B (.slice (some ⟨g, 0, none⟩) (L.length + 1) cap) (L ++ [(a, b)])) (c : Nat) :
    OwnP (w.setCell ⟨g, 2 * L.length + 1, none⟩ (.int .u8 (c : Int))) B (.slice (some ⟨g, 0, none⟩) (L.length + 1) cap) (L ++ [(a, c)]) := by
  obtain ⟨hl, ⟨e, _⟩ | ⟨g', cap', cur, hv, hg, hb, hc, hm, hs, ht⟩⟩ := h
  · cases e
  injection hv with h1 h2 h3
  injection h1 with h1
  injection h1 with h4 h5 h6
  subst h4
  refine ⟨by rw [prs_len], Or.inr ⟨g, cap, cur.setIfInBounds (2 * L.length + 1) (.int .u8 (c : Int)), by simp, hg, ?_, by subst h3; simpa using hc, by subst h3; exact hm, by rw [Array.size_setIfInBounds, h3]; exact hs, ?_⟩⟩
  · unfold World.setCell
    simp [Array.getElem?_modify, hb]
  · have e1 : (L ++ [(a, c)]).length = (L ++ [(a, b)]).length := by simp
    rw [e1, Array.toList_setIfInBounds, List.take_set, ht, prs_append, prs_append, List.set_append_right _ _ (by rw [prs_len]; omega), prs_len, show 2 * L.length + 1 - L.length * 2 = 1 by omega]
    rfl

theorem ownP_mem {w : World} {B : Nat} {v : Value} {L : List (Nat × Nat)} (h : OwnP w B v L) (hn : 1 ≤ L.length) : ∃ g cap, v = .slice (some ⟨g, 0, none⟩) L.length cap ∧ B ≤ g ∧ g < w.heap.size ∧ (∀ k, (hk : k < L.length) → w.cell? ⟨g, 2 * k, none⟩ = some (.int .u8 (L[k].1 : Int)) ∧ w.cell? ⟨g, 2 * k + 1, none⟩ = some (.int .u8 (L[k].2 : Int))) ∧ ∀ t, w.frozen? ⟨g, t, none⟩ = false := by
  obtain ⟨g, cap, hv, _, hg, hlt, hc, hf⟩ := owns_cells h hn
  refine ⟨g, cap, hv, hg, hlt, fun k hk => ⟨?_, ?_⟩, hf⟩
  · rw [hc _ (by omega)]; exact (prs_at L k hk).1
  · rw [hc _ (by omega)]; exact (prs_at L k hk).2

end Cls

end Go.Proofs.YtbnnobeahliffaaGreatDoor

namespace Go.Proofs.YtbnnobeahliffaaGreatDoor
open Go.RowKit
namespace Cls

theorem infoP : ∃ i, Tryz.prog.info? 123 = some i ∧ i.zero = some (.agg #[.int .u8 0, .int .u8 0]) ∧ i.size = 2 ∧ i.bytes = 2 := by
  have h : (Tryz.prog.info? 123).map (fun i => (i.zero, i.size, i.bytes)) = some (some (.agg #[.int .u8 0, .int .u8 0]), 2, 2) := by kernel_rfl
  obtain ⟨i, hi, hz⟩ := Option.map_eq_some_iff.1 h
  simp only [Prod.mk.injEq] at hz
  exact ⟨i, hi, hz.1, hz.2.1, hz.2.2⟩

set_option maxHeartbeats 2000000 in
theorem runs_any (f : Nat → Bool) (w : World) :
    Calls Tryz.prog 105 #[.agg #[.int .u64 ((wd (f) 0 : Nat) : Int), .int .u64 ((wd (f) 1 : Nat) : Int), .int .u64 ((wd (f) 2 : Nat) : Int), .int .u64 ((wd (f) 3 : Nat) : Int)]] w fun e w' => ∃ v, e = .returned v ∧ OwnP w' w.heap.size v (rr f 256) ∧ Below w.heap.size w w' := by
  obtain ⟨w1, b1⟩ := box w f
  have E1 : Hid _ := b1.eq
  have B1 : Hid (Below w.heap.size w w1) := b1.bel
  have F1 : Hid (Fam w1 w.heap.size 0 4 (wi f)) := b1.fam
  have s1 : w.heap.size < w1.heap.size := by have := b1.size; omega
  obtain ⟨i0, hi, hz0, hz1, hz2⟩ := infoP
  have Hlen : Hid (∀ n, (rr f n).length ≤ n) := rr_len f
  clear b1
  go_enter Tryz.func105, Tryz.ntmps105
  go_wp2_with fail
  rw [← E1.out]
  clear E1
  go_step3
  go_wp2_with fail
  go_step3
  go_wp2_with fail
  go_loopw [3, 4] (fun v vp wr => ∃ p q : Nat, vp = .int .i64 p ∧ q ≤ 256 ∧ (p = q ∨ (p = 257 ∧ q = 256)) ∧ (p = 257 ∨ q = 0 ∨ f (q - 1) = false) ∧ OwnP wr w1.heap.size v (rr f q) ∧ Below w1.heap.size w1 wr) (fun _ vp _ => 258 - (intOf vp).toNat)
  case atStart => exact ⟨0, 0, rfl, by omega, Or.inl rfl, by omega, by rw [rr_zero]; exact ownP_nil _ _, Below.refl _ _⟩
  case round =>
    rename World => wo
    obtain ⟨p, q, rfl, hq, hpq, hprev, hown, hbel⟩ := hrel
    generalize u3 = vo at *
    have HO : Hid (OwnP wo w1.heap.size vo (rr f q)) := hown
    have HB : Hid (Below w1.heap.size w1 wo) := hbel
    clear hown hbel
    by_cases hlt : p < 256
    · obtain rfl : p = q := by omega
      have hprev' : p = 0 ∨ f (p - 1) = false := by rcases hprev with h | h | h; exact absurd h (by omega); exact Or.inl h; exact Or.inr h
      have HP : Hid _ := hprev'
      have hpI : (p : Int) < 256 := by omega
      obtain ⟨a0, a1, a2, a3⟩ := c4 (F1.out.below HB.out s1)
      have c1 : Hid _ := has_any f p hlt wo
      clear hprev hprev' hpq
      cases hfp : f p with
      | false =>
        rw [hfp] at c1
        have HN : Hid (rr f (p + 1) = rr f p) := rr_not hfp
        have HF : Hid (f (p + 1 - 1) = false) := by show _ = _; simpa using hfp
        clear hfp
        go_wp2_with fail
        refine Calls.mono (Hid.out c1) ?_; rintro e w2 ⟨rfl, b2⟩
        have HB2 : Hid (Below w1.heap.size w1 w2) := HB.out.trans (b2.mono HB.out.size)
        have HO2 : Hid (OwnP w2 w1.heap.size vo (rr f p)) := owns_below HO.out b2 (Nat.le_refl _)
        clear b2
        go_wp2_with fail
        go_roundw
        case rel => exact ⟨p + 1, p + 1, by go_num, by omega, Or.inl rfl, Or.inr (Or.inr HF.out), by rw [HN.out]; exact HO2.out, HB2.out⟩
        case measure => simp [intOf]; omega
      | true =>
        rw [hfp] at c1
        have HF : Hid (f p = true) := hfp
        clear hfp
        go_wp2_with fail
        refine Calls.mono (Hid.out c1) ?_; rintro e w2 ⟨rfl, b2⟩
        have HB2 : Hid (Below w1.heap.size w1 w2) := HB.out.trans (b2.mono HB.out.size)
        have HO2 : Hid (OwnP w2 w1.heap.size vo (rr f p)) := owns_below HO.out b2 (Nat.le_refl _)
        clear b2 a0 a1 a2 a3 c1 HB HO
        go_wp2_with fail
        go_loopw [3, 4, 5] (fun vv vp vl wr => ∃ q : Nat, vo = vv ∧ vp = .int .i64 (p : Int) ∧ vl = .int .i64 ((p + q : Nat) : Int) ∧ p + q < 256 ∧ (∀ x, p ≤ x → x ≤ p + q → f x = true) ∧ OwnP wr w1.heap.size vo (rr f p) ∧ Below w1.heap.size w1 wr) (fun _ _ vl _ => 256 - (intOf vl).toNat)
        case atStart => exact ⟨0, rfl, rfl, rfl, by omega, fun x h1 h2 => by rw [show x = p by omega]; exact HF.out, HO2.out, HB2.out⟩
        case round =>
          obtain ⟨q, rfl, rfl, rfl, hq2, hall, hown, hbel⟩ := hrel
          have HA : Hid _ := hall
          have HOi : Hid (OwnP wr w1.heap.size vo (rr f p)) := hown
          have HBi : Hid (Below w1.heap.size w1 wr) := hbel
          obtain ⟨a0, a1, a2, a3⟩ := c4 (F1.out.below hbel s1)
          have hrun : Hid _ := rr_run HP.out q hall
          obtain ⟨l, hl⟩ : ∃ l, p + q = l := ⟨_, rfl⟩
          rw [hl] at hrun hq2 ⊢
          have HL : Hid (p + q = l) := hl
          have hlI : (l : Int) < 256 := by omega
          clear hall hown hbel hl
          by_cases he : l = 255
          · subst he
            have HFin : Hid (rr f 256 = rr f p ++ [(p, 255)]) := hrun.out
            have hlen : (rr f p).length ≤ 256 := by have := Hlen.out p; omega
            have O2 : wr.ownsRow w1.heap.size 123 2 vo (rr f p).length (prs (rr f p)) := HOi.out
            have hsz : w1.heap.size ≤ wr.heap.size := HBi.out.size
            clear a0 a1 a2 a3 HOi
            go_wp2_with (at_builtin; refine wpList_append_own _ rfl _ _ 121 rfl w1.heap.size 123 i0 (.agg #[.int .u8 0, .int .u8 0]) 2 2 Tryz.underlying121 hi hz0 hz1 hz2 rfl (by decide) _ _ _ rfl (O2.alloc _) ⟨wr.heap.size, 0, none⟩ 1 1 [.int .u8 (p : Int), .int .u8 255] rfl rfl ?c1 ?c2 ?c3 ?c4 ?c5 ?_)
            case c1 =>
              intro j' u hj'
              match j', hj' with
              | 0, hj' => simp at hj'; subst hj'; simp [Addr.add]
              | 1, hj' => simp at hj'; subst hj'; simp [Addr.add]
            case c2 =>
              intro u hu
              simp at hu
              rcases hu with rfl | rfl <;> rfl
            case c3 => unfold maxLen; omega
            case c4 => omega
            case c5 => simp; omega
            · intro v' w3 hown' hgrow _
              have HR : Hid (Below w1.heap.size w1 w3) := grow_below hsz HBi.out O2 hgrow
              have HO3 : Hid (OwnP w3 w1.heap.size v' (rr f 256)) := by
                show OwnP _ _ _ _
                unfold OwnP
                rw [HFin.out, prs_append, List.length_append]
                exact hown'
              clear hown' hgrow O2 HBi
              go_wp2_with fail
              go_roundw
              case rel => exact ⟨257, 256, by go_num, by omega, Or.inr ⟨rfl, rfl⟩, Or.inl rfl, HO3.out, HR.out⟩
              case measure => simp [intOf]; omega
          · have hl5 : (l : Int) < 255 := by omega
            have hl1 : l + 1 < 256 := by omega
            have hl1I : (l : Int) + 1 = ((l + 1 : Nat) : Int) := by omega
            have hne : ¬ (l : Int) + 1 = 256 := by omega
            have hneb : ((l : Int) + 1 == 256) = false := by simp; omega
            have c2 : Hid (Calls Tryz.prog 125 #[.agg #[.int .u64 ((wd (f) 0 : Nat) : Int), .int .u64 ((wd (f) 1 : Nat) : Int), .int .u64 ((wd (f) 2 : Nat) : Int), .int .u64 ((wd (f) 3 : Nat) : Int)], .int .u8 ((l : Int) + 1)] wr fun e w' => e = .returned (.bool (f (l + 1))) ∧ Below wr.heap.size wr w') := by
              show Calls _ _ _ _ _
              rw [hl1I]
              exact has_any f (l + 1) hl1 wr
            clear hl1I
            cases hfl : f (l + 1) with
            | true =>
              rw [hfl] at c2
              have HT : Hid (f (l + 1) = true) := hfl
              clear hfl
              go_wp2_with fail
              refine Calls.mono (Hid.out c2) ?_; rintro e w3 ⟨rfl, b3⟩
              have HB3 : Hid (Below w1.heap.size w1 w3) := HBi.out.trans (b3.mono HBi.out.size)
              have HO3 : Hid (OwnP w3 w1.heap.size vo (rr f p)) := owns_below HOi.out b3 (Nat.le_refl _)
              clear b3
              go_wp2_with fail
              go_roundw
              case rel =>
                have e := HL.out
                refine ⟨q + 1, rfl, rfl, by rw [show p + (q + 1) = l + 1 by omega]; go_num, by omega, fun x h1 h2 => ?_, HO3.out, HB3.out⟩
                by_cases h3 : x ≤ p + q
                · exact HA.out x h1 h3
                · rw [show x = l + 1 by omega]; exact HT.out
              case measure => simp [intOf]; omega
            | false =>
              rw [hfl] at c2
              have HT : Hid (f (l + 2 - 1) = false) := by show _ = _; rw [show l + 2 - 1 = l + 1 by omega]; exact hfl
              have HFin : Hid (rr f (l + 2) = rr f p ++ [(p, l)]) := by show _ = _; rw [show l + 2 = (l + 1) + 1 by omega, rr_not hfl]; exact hrun.out
              have hlen : (rr f p).length ≤ 256 := by have := Hlen.out p; omega
              clear hfl
              go_wp2_with fail
              refine Calls.mono (Hid.out c2) ?_; rintro e w3 ⟨rfl, b3⟩
              have HB3 : Hid (Below w1.heap.size w1 w3) := HBi.out.trans (b3.mono HBi.out.size)
              have O2 : w3.ownsRow w1.heap.size 123 2 vo (rr f p).length (prs (rr f p)) := owns_below HOi.out b3 (Nat.le_refl _)
              have hsz : w1.heap.size ≤ w3.heap.size := HB3.out.size
              clear b3 a0 a1 a2 a3 HOi
              go_wp2_with (at_builtin; refine wpList_append_own _ rfl _ _ 121 rfl w1.heap.size 123 i0 (.agg #[.int .u8 0, .int .u8 0]) 2 2 Tryz.underlying121 hi hz0 hz1 hz2 rfl (by decide) _ _ _ rfl (O2.alloc _) ⟨w3.heap.size, 0, none⟩ 1 1 [.int .u8 (p : Int), .int .u8 (l : Int)] rfl rfl ?c1 ?c2 ?c3 ?c4 ?c5 ?_)
              case c1 =>
                intro j' u hj'
                match j', hj' with
                | 0, hj' => simp at hj'; subst hj'; simp [Addr.add]
                | 1, hj' => simp at hj'; subst hj'; simp [Addr.add]
              case c2 =>
                intro u hu
                simp at hu
                rcases hu with rfl | rfl <;> rfl
              case c3 => unfold maxLen; omega
              case c4 => omega
              case c5 => simp; omega
              · intro v' w4 hown' hgrow _
                have HR : Hid (Below w1.heap.size w1 w4) := grow_below hsz HB3.out O2 hgrow
                have HO3 : Hid (OwnP w4 w1.heap.size v' (rr f (l + 2))) := by
                  show OwnP _ _ _ _
                  unfold OwnP
                  rw [HFin.out, prs_append, List.length_append]
                  exact hown'
                clear hown' hgrow O2 HB3
                go_wp2_with fail
                go_roundw
                case rel =>
                  have e := HL.out
                  exact ⟨l + 2, l + 2, by go_num, by omega, Or.inl rfl, Or.inr (Or.inr HT.out), HO3.out, HR.out⟩
                case measure => have e := HL.out; simp [intOf]; omega
    · obtain rfl : q = 256 := by omega
      obtain ⟨ao, c, rfl⟩ := ownP_slice HO.out
      have hpI : ¬ (p : Int) < 256 := by omega
      have H6 : Hid (Below w.heap.size w wo) := B1.out.trans (HB.out.mono B1.out.size)
      have H7 : Hid (OwnP wo w.heap.size (.slice ao (rr f 256).length c) (rr f 256)) := ownP_mono HO.out (by omega)
      clear hprev hpq HO HB
      go_wp2_with fail
      try rw [Exit.noGoto_ret]
      go_ret
      exact ⟨_, rfl, H7.out, H6.out⟩

end Cls

end Go.Proofs.YtbnnobeahliffaaGreatDoor

namespace Go.Proofs.YtbnnobeahliffaaGreatDoor
open Go.RowKit
namespace Cls

set_option maxHeartbeats 2000000 in
set_option maxRecDepth 4000 in
theorem refRuns_any (f : Nat → Bool) (w : World) :
    Calls Tryz.prog 89 #[.agg #[.int .u64 ((wd (f) 0 : Nat) : Int), .int .u64 ((wd (f) 1 : Nat) : Int), .int .u64 ((wd (f) 2 : Nat) : Int), .int .u64 ((wd (f) 3 : Nat) : Int)]] w fun e w' => ∃ v, e = .returned v ∧ OwnP w' w.heap.size v (rr f 256) ∧ Below w.heap.size w w' := by
  obtain ⟨w1, b1⟩ := box w f
  have E1 : Hid _ := b1.eq
  have B1 : Hid (Below w.heap.size w w1) := b1.bel
  have c1 : Hid _ := refBytes_any f w1
  obtain ⟨i0, hi, hz0, hz1, hz2⟩ := infoP
  have Hlen : Hid (∀ n, (rr f n).length ≤ n) := rr_len f
  clear b1
  go_enter Tryz.func89, Tryz.ntmps89
  go_wp2_with fail
  rw [← E1.out]
  clear E1
  refine Calls.mono (Hid.out c1) ?_; rintro e w2 ⟨g, cap, rfl, hg, hgl, hV, _, b2⟩
  have B2 : Hid (Below w.heap.size w w2) := B1.out.trans (b2.mono B1.out.size)
  have HV : Hid (Fv w2 g 256 (bo f)) := hV
  clear b2 hV c1 B1
  go_wp2_with fail
  go_loopw [3, 5] (fun v vb wr => ∃ b : Nat, b ≤ 256 ∧ vb = .int .i64 b ∧ OwnP wr w2.heap.size v (rr f b) ∧ Below w2.heap.size w2 wr) (fun _ vb _ => 256 - (intOf vb).toNat)
  case atStart => exact ⟨0, Nat.zero_le _, rfl, by rw [rr_zero]; exact ownP_nil _ _, Below.refl _ _⟩
  case round =>
    obtain ⟨b, hb, rfl, hown, hbel⟩ := hrel
    generalize u3 = vo at *
    have HO : Hid (OwnP wr w2.heap.size vo (rr f b)) := hown
    have HB : Hid (Below w2.heap.size w2 wr) := hbel
    by_cases hlt : b < 256
    · have hbI : (b : Int) < 256 := by omega
      have hck : wr.cell? ⟨g, b, none⟩ = some (.bool (f b)) := (Fv.below (show Fv w2 g 256 (bo f) from HV.out) hbel hgl) b hlt
      have hpre : Hid (∀ n, b = n + 1 → wr.cell? ⟨g, n, none⟩ = some (.bool (f n))) := fun n e => (Fv.below (show Fv w2 g 256 (bo f) from HV.out) hbel hgl) n (by omega)
      clear hown hbel
      cases hfb : f b with
      | false =>
        rw [hfb] at hck
        have HN : Hid _ := rr_not hfb
        clear hfb
        go_wp2_with fail
        go_roundw
        case rel => exact ⟨b + 1, by omega, by go_num, by rw [HN.out]; exact HO.out, HB.out⟩
        case measure => simp [intOf]; omega
      | true =>
        rw [hfb] at hck
        by_cases hnew : b = 0 ∨ f (b - 1) = false
        · have HN : Hid _ := rr_new hfb hnew
          have hlen : (rr f b).length ≤ 256 := by have := Hlen.out b; omega
          have O2 : wr.ownsRow w2.heap.size 123 2 vo (rr f b).length (prs (rr f b)) := HO.out
          have hsz : w2.heap.size ≤ wr.heap.size := HB.out.size
          clear hfb HO
          by_cases hb0 : b = 0
          · subst hb0
            clear hnew
            go_wp2_with (at_builtin; refine wpList_append_own _ rfl _ _ 121 rfl w2.heap.size 123 i0 (.agg #[.int .u8 0, .int .u8 0]) 2 2 Tryz.underlying121 hi hz0 hz1 hz2 rfl (by decide) _ _ _ rfl (O2.alloc _) ⟨wr.heap.size, 0, none⟩ 1 1 [.int .u8 0, .int .u8 0] rfl rfl ?c1 ?c2 ?c3 ?c4 ?c5 ?_)
            case c1 =>
              intro j' u hj'
              match j', hj' with
              | 0, hj' => simp at hj'; subst hj'; simp [Addr.add]
              | 1, hj' => simp at hj'; subst hj'; simp [Addr.add]
            case c2 =>
              intro u hu
              simp at hu
              subst hu
              rfl
            case c3 => unfold maxLen; omega
            case c4 => omega
            case c5 => simp; omega
            · intro v' w3 hown' hgrow _
              have HR : Hid (Below w2.heap.size w2 w3) := grow_below hsz HB.out O2 hgrow
              have HO3 : Hid (OwnP w3 w2.heap.size v' (rr f (0 + 1))) := by
                show OwnP _ _ _ _
                unfold OwnP
                rw [HN.out, prs_append, List.length_append]
                exact hown'
              clear hown' hgrow O2 HB
              go_wp2_with fail
              go_roundw
              case rel => exact ⟨1, by omega, by go_num, HO3.out, HR.out⟩
              case measure => simp [intOf]
          · obtain ⟨n, hbn⟩ : ∃ n, b = n + 1 := ⟨b - 1, by omega⟩
            have hfn : f n = false := by rcases hnew with h | h; exact absurd h hb0; rw [hbn] at h; simpa using h
            have hpk := hpre.out n hbn
            rw [hfn] at hpk
            have hpos : (0 : Int) < (b : Int) := by omega
            have hsub : (b : Int) - 1 = (n : Int) := by omega
            have hn6 : (n : Int) < 256 := by omega
            clear hnew hfn hb0 hbn
            go_wp2_with (at_builtin; refine wpList_append_own _ rfl _ _ 121 rfl w2.heap.size 123 i0 (.agg #[.int .u8 0, .int .u8 0]) 2 2 Tryz.underlying121 hi hz0 hz1 hz2 rfl (by decide) _ _ _ rfl (O2.alloc _) ⟨wr.heap.size, 0, none⟩ 1 1 [.int .u8 (b : Int), .int .u8 (b : Int)] rfl rfl ?c1 ?c2 ?c3 ?c4 ?c5 ?_)
            case c1 =>
              intro j' u hj'
              match j', hj' with
              | 0, hj' => simp at hj'; subst hj'; simp [Addr.add]
              | 1, hj' => simp at hj'; subst hj'; simp [Addr.add]
            case c2 =>
              intro u hu
              simp at hu
              subst hu
              rfl
            case c3 => unfold maxLen; omega
            case c4 => omega
            case c5 => simp; omega
            · intro v' w3 hown' hgrow _
              have HR : Hid (Below w2.heap.size w2 w3) := grow_below hsz HB.out O2 hgrow
              have HO3 : Hid (OwnP w3 w2.heap.size v' (rr f (b + 1))) := by
                show OwnP _ _ _ _
                unfold OwnP
                rw [HN.out, prs_append, List.length_append]
                exact hown'
              clear hown' hgrow O2 HB
              go_wp2_with fail
              go_roundw
              case rel => exact ⟨b + 1, by omega, by go_num, HO3.out, HR.out⟩
              case measure => simp [intOf]; omega
        · obtain ⟨n, hbn⟩ : ∃ n, b = n + 1 := ⟨b - 1, by omega⟩
          have hfn : f n = true := by
            cases e : f n with
            | true => rfl
            | false => exact absurd (Or.inr (by rw [hbn]; simpa using e)) hnew
          obtain ⟨L, a, eL, ha⟩ := rr_last hfn
          have HN : Hid (rr f (b + 1) = L ++ [(a, b)]) := by show _ = _; rw [hbn]; rw [hbn] at hfb; exact rr_more hfb hfn eL
          have hpk := hpre.out n hbn
          rw [hfn] at hpk
          have HO' : OwnP wr w2.heap.size vo (L ++ [(a, n)]) := by rw [← eL, ← hbn]; exact HO.out
          obtain ⟨g', cap', hv, hg', hgl', hcells, hfr⟩ := ownP_mem HO' (by simp)
          have hll : (L ++ [(a, n)]).length = L.length + 1 := by simp
          rw [hll] at hv
          subst hv
          have hc0 : wr.cell? ⟨g', 2 * L.length + 1, none⟩ = some (.int .u8 (n : Int)) := by have := (hcells L.length (by simp)).2; simpa using this
          have hf0 := hfr (2 * L.length + 1)
          have HS : Hid (OwnP (wr.setCell ⟨g', 2 * L.length + 1, none⟩ (.int .u8 (b : Int))) w2.heap.size (.slice (some ⟨g', 0, none⟩) (L.length + 1) cap') (L ++ [(a, b)])) := ownP_set HO' b
          have HB2 : Hid (Below w2.heap.size w2 (wr.setCell ⟨g', 2 * L.length + 1, none⟩ (.int .u8 (b : Int)))) := HB.out.trans (((Wrote.refl (fun b' _ => b' = g') wr).setCell rfl _).below (fun b' o e => by omega))
          have hlen : L.length ≤ 256 := by have := Hlen.out (n + 1); rw [eL, hll] at this; omega
          have hpos : (0 : Int) < (b : Int) := by omega
          have hsub : (b : Int) - 1 = (n : Int) := by omega
          have hn6 : (n : Int) < 256 := by omega
          clear hnew hfn hfb HO HB HO' hcells hfr eL hll hbn
          generalize L.length = m at *
          rw [Nat.mul_comm 2 m] at hc0 hf0 HS HB2
          go_wp2_with fail
          go_roundw
          case rel => exact ⟨b + 1, by omega, by go_num, by rw [HN.out]; exact HS.out, HB2.out⟩
          case measure => simp [intOf]; omega
    · obtain rfl : b = 256 := by omega
      obtain ⟨ao, c, rfl⟩ := ownP_slice HO.out
      have H6 : Hid (Below w.heap.size w wr) := B2.out.trans (HB.out.mono B2.out.size)
      have hsz : w.heap.size ≤ w2.heap.size := B2.out.size
      have H7 : Hid (OwnP wr w.heap.size (.slice ao (rr f 256).length c) (rr f 256)) := ownP_mono HO.out hsz
      clear HO HB hown hbel
      go_wp2_with fail
      go_ret
      exact ⟨_, rfl, H7.out, H6.out⟩

end Cls

end Go.Proofs.YtbnnobeahliffaaGreatDoor
