/- Contract of beaglelaw07.alive: it tells true; nothing that was there turns. -/
import Derived.Test.YtlogdjhnhnfbkaaDoorLfAlive
import Derived.Test.YtlogdjhnhnfbkaaDoorLfA
namespace Go.Proofs.YtlogdjhnhnfbkaaDoor
open Go.RowKit
namespace Cls

def fa7 : Nat → Bool := inS ⟨#[97]⟩ 1
def fb7 : Nat → Bool := inS ⟨#[98]⟩ 1
def fab7 : Nat → Bool := inS ⟨#[97, 98]⟩ 2
def ff7 : Nat → Bool := fun _ => true
def xyz7 : ByteArray := ⟨#[120, 121, 122]⟩

theorem sm_no {f g : Nat → Bool} (x : Nat) (hx : x < 256) (h : f x ≠ g x) : sm f g = false := by
  rw [Bool.eq_false_iff]
  intro e
  exact h ((sm_iff f g).1 e x hx)

theorem fa7_at (x : Nat) : fa7 x = (x == 97) := by
  show (97 == x || false) = _
  rw [Bool.or_false, Bool.eq_iff_iff, beq_iff_eq, beq_iff_eq]
  exact eq_comm

theorem fb7_at (x : Nat) : fb7 x = (x == 98) := by
  show (98 == x || false) = _
  rw [Bool.or_false, Bool.eq_iff_iff, beq_iff_eq, beq_iff_eq]
  exact eq_comm

theorem sg_a7 : sg fa7 = true := (sg_one (b := 97) (by omega) (fun x _ => fa7_at x)).1
theorem sg_b7 : sg fb7 = true := (sg_one (b := 98) (by omega) (fun x _ => fb7_at x)).1
theorem fr_f7 : fr ff7 = true := sm_true (fun _ _ => rfl)
theorem fr_a7 : fr fa7 = false := sm_no 0 (by omega) (by decide +kernel)
theorem fr_b7 : fr fb7 = false := sm_no 0 (by omega) (by decide +kernel)
theorem fr_ab7 : fr fab7 = false := sm_no 0 (by omega) (by decide +kernel)
theorem sm_ab7 : sm fa7 fb7 = false := sm_no 97 (by omega) (by decide +kernel)
theorem sm_ba7 : sm fb7 fa7 = false := sm_no 97 (by omega) (by decide +kernel)
theorem sm_fa7 : sm ff7 fa7 = false := sm_no 0 (by omega) (by decide +kernel)

theorem sg_f7 : sg ff7 = false := by
  have h : cb ff7 0 256 = 256 := (cb_full ff7 256).2 (fun _ _ => rfl)
  unfold sg
  rw [h]
  rfl

theorem sg_ab7 : sg fab7 = false := by
  rw [Bool.eq_false_iff]
  intro h
  rcases sgl_sg fab7 with ⟨_, hb, hx⟩ | ⟨h', _, _⟩
  · have e1 := hx 97 (by omega)
    have e2 := hx 98 (by omega)
    have h1 : fab7 97 = true := by decide +kernel
    have h2 : fab7 98 = true := by decide +kernel
    rw [h1] at e1
    rw [h2] at e2
    have e1' : 97 = bt fab7 := by simpa using e1.symm
    have e2' : 98 = bt fab7 := by simpa using e2.symm
    omega
  · rw [h'] at h; cases h

def pal7 : Nat → Nat → Bool := pal fa7 ff7 fb7

theorem pal_0 : pal7 0 = fa7 := rfl
theorem pal_1 : pal7 1 = ff7 := rfl
theorem pal_2 : pal7 2 = fb7 := rfl
theorem pal_3 : pal7 3 = fa7 := rfl

theorem wh_pal : wh pal7 fa7 4 = [0, 3] := by
  rw [wh_succ, wh_succ, wh_succ, wh_succ, wh_zero, pal_0, pal_1, pal_2, pal_3, sm_fa7, sm_ba7, sm_refl]
  rfl

theorem kd_pal : kd pal7 4 = [fa7, fb7] := by
  have k1 : kd pal7 1 = [fa7] := by
    show (if fr (pal7 0) || ([] : List (Nat → Bool)).any (fun g => sm g (pal7 0)) then [] else [] ++ [pal7 0]) = _
    rw [pal_0, fr_a7]; rfl
  have k2 : kd pal7 2 = [fa7] := by rw [kd_fr (by rw [pal_1]; exact fr_f7), k1]
  have k3 : kd pal7 3 = [fa7, fb7] := by
    rw [kd_out (by rw [pal_2]; exact fr_b7) (by rw [k2, pal_2]; simp [sm_ab7]), k2, pal_2]; rfl
  rw [kd_in (by rw [k3, pal_3]; simp [sm_refl]), k3]

theorem bnd_pal : bnd pal7 4 = 3 := by
  rw [bnd_succ, bnd_succ, bnd_succ, bnd_succ, bnd_zero, pal_0, pal_1, pal_2, pal_3, fr_a7, fr_b7, fr_f7]
  rfl

theorem four_cases {p : Nat → Prop} (h0 : p 0) (h1 : p 1) (h2 : p 2) (h3 : p 3) : ∀ t, t < 4 → p t
  | 0, _ => h0
  | 1, _ => h1
  | 2, _ => h2
  | 3, _ => h3

theorem em_a7 : sm fa7 (fun _ => false) = false := sm_no 97 (by omega) (by decide +kernel)
theorem em_b7 : sm fb7 (fun _ => false) = false := sm_no 98 (by omega) (by decide +kernel)
theorem em_f7 : sm ff7 (fun _ => false) = false := sm_no 97 (by omega) (by decide +kernel)

theorem rgt_pal : rgt pal7 4 1 = true := by
  rw [rgt_yes (by omega)]
  have : emp pal7 4 = false := any_range_no (q := fun t => sm (pal7 t) (fun _ => false)) (four_cases em_a7 em_f7 em_b7 em_a7)
  rw [this]; rfl

theorem pln_pal : pln pal7 4 = true :=
  all_range (q := fun t => sg (pal7 t) || fr (pal7 t)) (four_cases (by show (sg fa7 || _) = true; rw [sg_a7]; rfl) (by show (_ || fr ff7) = true; rw [fr_f7]; simp) (by show (sg fb7 || _) = true; rw [sg_b7]; rfl) (by show (sg fa7 || _) = true; rw [sg_a7]; rfl))

theorem als_pal : als pal7 4 = false := als_no (t := 1) (by omega) (by rw [pal_1]; exact sg_f7)

theorem pln_ab : pln (fun _ => fab7) 1 = false := all_range_no (q := fun _ => sg fab7 || fr fab7) (t := 0) (by omega) (by rw [sg_ab7, fr_ab7]; rfl)

/-- The set of one byte of a text. -/
theorem tx_at (s : ByteArray) (t : Nat) (h : t < s.size) (x : Nat) : tx s t x = (x == (s[t]'h).toNat) := by
  unfold tx inS
  have hd : (s.extract t (t + 1)).data.toList = [s[t]'h] := by
    rw [ByteArray.data_extract]
    have ht : t < s.data.size := h
    apply List.ext_getElem?
    intro i
    rw [Array.toList_extract, List.extract_eq_take_drop]
    by_cases hi : i = 0
    · subst hi
      simp
      exact Array.getElem?_eq_getElem ht
    · rw [List.getElem?_eq_none (by simp; omega), List.getElem?_eq_none (by simp; omega)]
  have hsz : (s.extract t (t + 1)).size = 1 := by
    rw [ByteArray.size_extract]; omega
  rw [hd, hsz]
  show ((s[t]'h).toNat == x || false) = _
  rw [Bool.or_false, Bool.eq_iff_iff, beq_iff_eq, beq_iff_eq]
  exact eq_comm

theorem tx_sg (s : ByteArray) (t : Nat) (h : t < s.size) : sg (tx s t) = true ∧ bt (tx s t) = (s[t]'h).toNat :=
  sg_one (by exact (s[t]'h).toNat_lt) (fun x _ => tx_at s t h x)

theorem als_tx (s : ByteArray) : als (tx s) s.size = true := als_yes (fun t ht => (tx_sg s t ht).1)

theorem ltx_tx (s : ByteArray) : ltx (tx s) s.size = s := by
  rw [ltx_yes (als_tx s)]
  apply ByteArray.ext
  apply Array.ext
  · simp [lts_len]
  · intro i h1 h2
    simp only [List.getElem_toArray]
    apply UInt8.toNat_inj.1
    rw [lts_at, (tx_sg s i h2).2]
    rfl

end Cls
end Go.Proofs.YtlogdjhnhnfbkaaDoor
