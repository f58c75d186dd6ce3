/- A map of classes that were met: what it tells. Nothing of the program but its types' numbers. -/
import Derived.Test.YtcohcdebbkfdfaaDoorLfOwn
import Derived.Test.YtcohcdebbkfdfaaDoorLfKindR
import Derived.Maps.OwnOps
import Derived.Maps.OwnSet
import Derived.Maps.Views
import Derived.DeepKeys4
import Derived.WalkArith
namespace Go.Proofs.YtcohcdebbkfdfaaDoor
open Go.RowKit Go.Maps
namespace Cls

theorem laidOutM : laidOutB Tryd.prog = true := by kernel_rfl

theorem rowK : (35 : TypeId) < Tryd.prog.types.size := of_decide_eq_true (by kernel_rfl)

theorem wideK : (match Tryd.prog.underlying 35 with | some (.array _ _) | some (.struct _) => true | _ => false) = true := by rw [Tryd.underlying35]

theorem lawK : Keyed Tryd.prog 35 := Keyed.of_law (deep_law_laid laidOutM (m := 2) (by omega) rowK (by kernel_rfl) wideK)

theorem zeroB (w : World) : (zeroValue 4).run Tryd.prog w = .ok (.bool false) w := by kernel_rfl

theorem keyTypeK : Tryd.prog.keyType 35 = true := by kernel_rfl

theorem cellsU : Tryd.prog.cellsOf 33 = 1 := by kernel_rfl

theorem cellsK : Tryd.prog.cellsOf 35 = 4 := by kernel_rfl

theorem typesK : ∃ d, Tryd.prog.types.size = d + 1 := ⟨_, (Nat.succ_pred_eq_of_pos (Nat.lt_of_le_of_lt (Nat.zero_le _) rowK)).symm⟩

theorem key_of (x y z u : Int) (h0 : (Lit.int .u64 x).wf = true) (h1 : (Lit.int .u64 y).wf = true) (h2 : (Lit.int .u64 z).wf = true) (h3 : (Lit.int .u64 u).wf = true) :
    ∃ l, keyOf Tryd.prog 35 (.agg #[.int .u64 x, .int .u64 y, .int .u64 z, .int .u64 u]) = some l := by
  obtain ⟨d, hd⟩ := typesK
  have hf : (Value.agg #[.int .u64 x, .int .u64 y, .int .u64 z, .int .u64 u]).formed Tryd.prog 35 = true := by simp [Value.formed, Tryd.underlying35, cellsK]
  have hr : List.range 4 = [0, 1, 2, 3] := rfl
  unfold keyOf
  rw [Tryd.underlying35]
  simp [keyTypeK, hf, hd, Program.keyLits, Tryd.underlying35, Tryd.underlying33, cellsU, cellsK, Value.cells, hr, h0, h1, h2, h3]

theorem wf_wd (f : Nat → Bool) (k : Nat) : (Lit.int .u64 ((wd f k : Nat) : Int)).wf = true := by
  have := wd_lt f k
  exact WalkArith.wf_u64 ⟨by omega, by omega⟩

/-- What a class reads as, as a key. -/
def kl (q : Value → Option Lit) (f : Nat → Bool) : Lit := (q (.agg #[.int .u64 ((wd (f) 0 : Nat) : Int), .int .u64 ((wd (f) 1 : Nat) : Int), .int .u64 ((wd (f) 2 : Nat) : Int), .int .u64 ((wd (f) 3 : Nat) : Int)])).getD (.bool false)

theorem kl_of (f : Nat → Bool) : keyOf Tryd.prog 35 (.agg #[.int .u64 ((wd (f) 0 : Nat) : Int), .int .u64 ((wd (f) 1 : Nat) : Int), .int .u64 ((wd (f) 2 : Nat) : Int), .int .u64 ((wd (f) 3 : Nat) : Int)]) = some (kl (keyOf Tryd.prog 35) f) := by
  obtain ⟨l, hl⟩ := key_of _ _ _ _ (wf_wd f 0) (wf_wd f 1) (wf_wd f 2) (wf_wd f 3)
  unfold kl
  rw [hl]
  rfl

theorem kl_key (f : Nat → Bool) : WideAt.IsKeyLit (kl (keyOf Tryd.prog 35) f) := lawK.key (kl_of f)

theorem kl_same (f g : Nat → Bool) : (kl (keyOf Tryd.prog 35) f).sameKey (kl (keyOf Tryd.prog 35) g) = sm f g := by
  rw [Bool.eq_iff_iff]
  constructor
  · intro h
    have e := WideAt.sameKey_eq h
    have h1 := kl_of f
    rw [e] at h1
    have h2 := lawK.inj h1 (kl_of g)
    injection h2 with h2
    have h3 := congrArg Array.toList h2
    simp at h3
    obtain ⟨e0, e1, e2, e3⟩ := h3
    unfold sm
    rw [Int.ofNat.inj e0, Int.ofNat.inj e1, Int.ofNat.inj e2, Int.ofNat.inj e3]
    simp
  · intro h
    have hw := (sm_words f g).1 h
    have e : kl (keyOf Tryd.prog 35) f = kl (keyOf Tryd.prog 35) g := by unfold kl; rw [hw 0 (by omega), hw 1 (by omega), hw 2 (by omega), hw 3 (by omega)]
    rw [e]
    exact WideAt.sameKey_self (kl_key g)

theorem atKey_fold (u z : DataW Unit) (k : Lit) : ∀ (acc : List Lit) (m : DataW Unit), IsMap m → (∀ x ∈ acc, WideAt.IsKeyLit x) → (acc.foldl (fun m x => m.put x u) m).atKey k z = if acc.any (fun x => x.sameKey k) then u else m.atKey k z
  | [], m, _, _ => by simp
  | x :: r, m, hm, hk => by
    rw [List.foldl_cons, atKey_fold u z k r (m.put x u) (hm.put x u) (fun y hy => hk y (List.mem_cons_of_mem _ hy)), List.any_cons]
    by_cases h1 : r.any (fun x => x.sameKey k) = true
    · rw [h1]; simp
    · have h1' : r.any (fun x => x.sameKey k) = false := by simpa using h1
      rw [h1']
      by_cases e : k = x
      · subst e
        rw [atKey_put_same hm (hk k (by simp)), WideAt.sameKey_self (hk k (by simp))]
        simp
      · rw [atKey_put_other e, sameKey_ne (fun e' => e e'.symm)]
        simp

/-- The map of those that were met. -/
def met (q : Value → Option Lit) (L : List (Nat → Bool)) : DataW Unit := setOf (.lit (.bool true)) (L.map (kl q))

theorem met_nil : met (keyOf Tryd.prog 35) [] = .map [] := rfl

theorem met_snoc (L : List (Nat → Bool)) (f : Nat → Bool) : met (keyOf Tryd.prog 35) (L ++ [f]) = (met (keyOf Tryd.prog 35) L).put (kl (keyOf Tryd.prog 35) f) (.lit (.bool true)) := by unfold met; rw [List.map_append]; exact setOf_snoc _ _ _

theorem met_at (L : List (Nat → Bool)) (f : Nat → Bool) : (met (keyOf Tryd.prog 35) L).atKey (kl (keyOf Tryd.prog 35) f) (.lit (.bool false)) = .lit (.bool (L.any fun g => sm g f)) := by
  unfold met setOf
  rw [atKey_fold _ _ _ _ _ isMap_empty (fun x hx => by obtain ⟨g, _, rfl⟩ := List.mem_map.1 hx; exact kl_key g), List.any_map]
  have e : ((fun x : Lit => x.sameKey (kl (keyOf Tryd.prog 35) f)) ∘ kl (keyOf Tryd.prog 35)) = fun g => sm g f := by funext g; exact kl_same g f
  rw [e]
  cases L.any fun g => sm g f <;> rfl

theorem met_look {w : World} {B n : Nat} {L : List (Nat → Bool)} (h : w.ownsMap Tryd.prog 35 (plainElem Tryd.prog 4) B n (met (keyOf Tryd.prog 35) L)) (f : Nat → Bool) :
    (Instr.lookup 50 (.map (some B)) (.agg #[.int .u64 ((wd (f) 0 : Nat) : Int), .int .u64 ((wd (f) 1 : Nat) : Int), .int .u64 ((wd (f) 2 : Nat) : Int), .int .u64 ((wd (f) 3 : Nat) : Int)]) false).run Tryd.prog w = .ok (.bool (L.any fun g => sm g f)) w := by
  obtain ⟨v, ps, hrun, hv⟩ := h.lookup lawK Tryd.underlying50 (zeroB w) (plainElem_bool Tryd.underlying4 false) (kl_of f)
  rw [met_at] at hv
  rw [hrun]
  unfold plainElem at hv
  rw [Tryd.underlying4] at hv
  cases v <;> simp at hv
  rw [hv.1]

end Cls
end Go.Proofs.YtcohcdebbkfdfaaDoor
