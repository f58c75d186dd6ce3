/- What stands on the way of the laws of layer 10. -/
import Derived.Test.YtbojmkkpgglhhaaDoorWdAl
import Derived.Test.YtbojmkkpgglhhaaDoorLfOpen
import Derived.Deep.RegionHeld3
namespace Go.Proofs.YtbojmkkpgglhhaaDoor
open Go.RowKit Res
namespace Cls

/-- A leaf in a box, a class in another one, and both tables. -/
structure Lxc (w wk : World) (g gc : Nat) (ao : Option Addr) (n cap : Nat) (P : Nat → Nat → Bool) (K : Int) (c : Nat → Bool) : Prop where
  o : Lx w wk g ao n cap P K
  f : Fam wk gc 0 4 (wi c)

theorem Lxc.grow {w wk w' : World} {g gc : Nat} {ao : Option Addr} {n cap : Nat} {P : Nat → Nat → Bool} {K : Int} {c : Nat → Bool} (h : Lxc w wk g gc ao n cap P K c) (b : Below wk.heap.size wk w') : Lxc w w' g gc ao n cap P K c :=
  ⟨h.o.grow b, h.f.below b (h.f.lt (by omega))⟩

theorem wn_le (P : Nat → Nat → Bool) (n : Nat) (K : Int) (m : Nat) (z : Int) : wn P n K m z ≤ m + 1 := by unfold wn; split <;> omega

/-- Rows of numbers that are the same. -/
theorem same_told (N : Nat) (hN : N ≤ 1000001) (F : Nat → Int) (ao bo : Option Addr) (ca cb : Nat) (w : World) (ha : Lies w ao N F) (hb : Lies w bo N F) :
    Calls Tryd.prog 17 #[.slice ao N ca, .slice bo N cb] w fun e w' => e = .returned (.bool true) ∧ Below w.heap.size w w' :=
  (same_lies N (by omega) ao bo ca cb F F (fun _ _ => rfl) w ha hb).mono (by rintro e w' ⟨rfl, q, rfl⟩; exact ⟨rfl, below_drewN (Below.refl _ _) q⟩)

theorem wf_len (P : Nat → Nat → Bool) (n : Nat) (K : Int) (s : ByteArray) (z : Int) : (wf P n K s z).length ≤ s.size + 1 := by
  unfold wf
  split
  · exact Nat.le_trans (hts_len _ _ _) (wn_le P n K s.size z)
  · exact Nat.zero_le _

theorem we_wok {P : Nat → Nat → Bool} {n : Nat} {K : Int} {m : Nat} {z : Int} (h : we P n K m z = 0) : wok P n K = true := by
  cases hw : wok P n K with
  | true => rfl
  | false => rw [(we_form hw).1] at h; cases h

theorem wn_stn {P : Nat → Nat → Bool} {n : Nat} {K : Int} {m : Nat} {z : Int} (h : we P n K m z = 0) : wn P n K m z = stn P n K m := by
  obtain ⟨h1, _, hr, _⟩ := wok_len (we_wok h)
  have e : wn P n K m z = m + 1 - n := if_pos h
  rw [e]
  by_cases hm : n ≤ m
  · rw [stn_yes hr hm]; omega
  · rw [stn_no (fun hh => hm hh.2)]; omega

theorem wn_no {P : Nat → Nat → Bool} {n : Nat} {K : Int} {m : Nat} {z : Int} (h : ¬ we P n K m z = 0) : wn P n K m z = 0 := if_neg h

theorem ws_iff {P : Nat → Nat → Bool} {n : Nat} {K : Int} {m : Nat} {z : Int} {s : ByteArray} (h : we P n K m z = 0) (i : Nat) : ws P s i n = 0 ↔ mis P s i n = 0 := by
  obtain ⟨_, _, _, hp⟩ := wok_len (we_wok h)
  exact ws_mis P s i n (fun t ht => by
    have := (List.all_eq_true.1 hp) t (by simpa using ht)
    simpa using this)

/-- By sums the same is found as element by element. -/
theorem wf_fnd {P : Nat → Nat → Bool} {n : Nat} {K : Int} {s : ByteArray} {z : Int} (h : wfe P n K s.size z = 0) : wf P n K s z = fnd P n K s := by
  by_cases hK : K = 0
  · have h' : we P n K s.size z = 0 := by
      unfold wfe at h
      rw [if_pos hK] at h
      exact h
    obtain ⟨_, _, _, hp⟩ := wok_len (we_wok h')
    unfold wf
    rw [if_pos hK, wn_stn h', hts_mis P s n _ hp, fnd_hts, hK]
  · unfold wfe at h
    rw [if_neg hK] at h
    cases h

end Cls
end Go.Proofs.YtbojmkkpgglhhaaDoor
