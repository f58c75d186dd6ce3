/- Contract of beaglelaw14.few. -/
import Derived.Test.YtbnnobeahliffaaGreatDoorQyE
import Derived.Test.YtbnnobeahliffaaGreatDoorQyOpn
set_option linter.unusedVariables false
namespace Go.Proofs.YtbnnobeahliffaaGreatDoor
open Go.RowKit
namespace Cls

/-- How many elements nodes have together. -/
def suml : List Qn → Nat
  | [] => 0
  | x :: l => x.p.length + suml l

theorem suml_snoc (l : List Qn) (x : Qn) : suml (l ++ [x]) = suml l + x.p.length := by
  induction l with
  | nil => simp [suml]
  | cons y l ih => simp only [List.cons_append, suml, ih]; omega

theorem suml_le (l : List Qn) (N : Nat) (h : ∀ x ∈ l, x.p.length ≤ N) : suml l ≤ l.length * N := by
  induction l with
  | nil => simp [suml]
  | cons y l ih =>
    have h1 := h y (List.mem_cons_self ..)
    have h2 := ih (fun x hx => h x (List.mem_cons_of_mem _ hx))
    rw [List.length_cons, Nat.succ_mul]
    simp only [suml]
    omega

def fewq (l : List Qn) : Bool := decide (l.length ≤ 200 ∧ suml l ≤ 2000)

theorem qr_len {w : World} {so : Option Addr} {L : List Qv} (h : QR w so L) : ∀ x ∈ qis L, x.p.length ≤ 4398046511104 := fun x hx => by
  unfold qis at hx
  obtain ⟨y, hy, rfl⟩ := List.mem_map.1 hx
  exact (h.ok y hy).small

set_option maxRecDepth 100000 in
set_option maxHeartbeats 4000000 in
theorem few14_any (n cap : Nat) (so : Option Addr) (L : List Qv) (hn : L.length = n) (w : World) (hL : QR w so L) :
    Calls Tryz.prog 10 #[.slice so n cap] w fun e w' => e = .returned (.bool (fewq (qis L))) ∧ Below w.heap.size w w' := by
  have hn2 : n ≤ 4398046511104 := by have := hL.small; omega
  have HL : Hid _ := hL
  have HN : Hid (L.length = n) := hn
  have HQN : Hid ((qis L).length = n) := by show _ = _; rw [qis_len, hn]
  have HSM : Hid (∀ i, i ≤ 200 → suml ((qis L).take i) ≤ 200 * 4398046511104) := fun i hi => by
    have h1 := suml_le ((qis L).take i) 4398046511104 (fun x hx => qr_len hL x (List.mem_of_mem_take hx))
    have h2 : ((qis L).take i).length ≤ 200 := by rw [List.length_take]; omega
    exact Nat.le_trans h1 (Nat.mul_le_mul_right _ h2)
  have HALL : Hid ((qis L).take n = qis L) := by show _ = _; rw [List.take_of_length_le]; rw [qis_len, hn]; exact Nat.le_refl _
  clear hL hn
  go_enter Tryz.func10, Tryz.ntmps10
  go_wp2_with fail
  go_loopw [3, 8] (fun v vi wr => Below w.heap.size w wr ∧ ∃ i : Nat, i ≤ n ∧ vi = .int .i64 (i : Int) ∧ ∃ m : Int, v = .int .i64 m ∧ (i ≤ 200 → m = (suml ((qis L).take i) : Int))) (fun _ vi _ => n - (intOf vi).toNat)
  case atStart => exact ⟨Below.refl _ _, 0, Nat.zero_le _, rfl, 0, rfl, fun _ => rfl⟩
  case round =>
    obtain ⟨hbel, i, hi, rfl, m, rfl, hm⟩ := hrel
    have HB : Hid _ := hbel
    have HM : Hid _ := hm
    clear hbel hm
    by_cases hin : i < n
    · have hiI : (i : Int) < (n : Int) := by omega
      have h1 : i < L.length := by rw [HN.out]; exact hin
      have hh : i < (qis L).length := by rw [qis_len]; exact h1
      have htk : (qis L).take (i + 1) = (qis L).take i ++ [L[i].i] := by rw [← List.take_append_getElem hh, qis_at L i h1 hh]
      obtain ⟨b, o, rfl, hb, hC⟩ := (HL.out.grow HB.out).lies (by omega)
      obtain ⟨c0, c1, c2, c3⟩ := hC i h1
      have hx9 := (HL.out.ok L[i] (List.getElem_mem h1)).small
      have HNX : Hid (i + 1 ≤ 200 → wrap64 (m + (L[i].i.p.length : Int)) = (suml ((qis L).take (i + 1)) : Int)) := fun h => by
        have e1 := HM.out (by omega)
        have e2 := HSM.out (i + 1) h
        rw [htk, suml_snoc] at e2 ⊢
        rw [e1]
        unfold wrap64
        omega
      clear hC htk
      generalize L[i] = x at *
      generalize x.i.p.length = xl at *
      obtain ⟨w1, e1⟩ : ∃ w1, w1 = wr.alloc (.cells #[.int .i64 x.i.kind, .int .i64 x.i.n, .slice x.ao xl x.cap, .int .i64 x.i.k] 36) := ⟨_, rfl⟩
      have b1 : Below wr.heap.size wr w1 := by rw [e1]; exact al_below _ _
      obtain ⟨a0, a1, a2, a3⟩ : K4 w1 wr.heap.size (.int .i64 x.i.kind) (.int .i64 x.i.n) (.slice x.ao xl x.cap) (.int .i64 x.i.k) := by rw [e1]; exact k4_new _ _ _ _ _ _
      have E1 : Hid _ := e1
      have HB1 : Hid (Below w.heap.size w w1) := bgrow' HB.out b1
      clear e1 b1
      go_wp2_with (first | rw [← E1.out])
      go_roundw
      case rel => exact ⟨HB1.out, i + 1, by omega, by go_num, _, rfl, fun h => HNX.out h⟩
      case measure => simp [intOf]; omega
    · obtain rfl : i = n := by omega
      by_cases h200 : i ≤ 200
      · have hm2 : m = (suml (qis L) : Int) := by have := HM.out h200; rw [HALL.out] at this; exact this
        have hI2 : (i : Int) ≤ 200 := by omega
        subst hm2
        by_cases h2k : suml (qis L) ≤ 2000
        · have hI3 : (suml (qis L) : Int) ≤ 2000 := by omega
          have HF : Hid (fewq (qis L) = true) := by show _ = _; unfold fewq; rw [HQN.out, decide_eq_true ⟨h200, h2k⟩]
          generalize suml (qis L) = sm at *
          go_wp2_with fail
          go_ret
          exact ⟨by rw [HF.out]; rfl, HB.out⟩
        · have hI3 : ¬ (suml (qis L) : Int) ≤ 2000 := by omega
          have HF : Hid (fewq (qis L) = false) := by show _ = _; unfold fewq; rw [HQN.out, decide_eq_false (fun h => h2k h.2)]
          generalize suml (qis L) = sm at *
          go_wp2_with fail
          go_ret
          exact ⟨by rw [HF.out]; rfl, HB.out⟩
      · have hI2 : ¬ (i : Int) ≤ 200 := by omega
        have HF : Hid (fewq (qis L) = false) := by show _ = _; unfold fewq; rw [HQN.out, decide_eq_false (fun h => h200 h.1)]
        go_wp2_with fail
        go_ret
        exact ⟨by rw [HF.out]; rfl, HB.out⟩

end Cls
end Go.Proofs.YtbnnobeahliffaaGreatDoor
