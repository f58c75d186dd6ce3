/- Tokens: how bytes, classes, elements are read and written: plain. Contracts of beagleref13.hex, in, sign; a 'Got' in a box. -/
import Derived.Test.YtbnnobeahliffaaGreatDoorNvA
import Derived.Test.YtbnnobeahliffaaGreatDoorClsB

namespace Go.Proofs.YtbnnobeahliffaaGreatDoor
open Go.RowKit
namespace Cls

/-- What was read, and the place behind it; or the place of what is amiss, and why. -/
abbrev Rd (α : Type) := Except (Nat × Nat) (α × Nat)

def sgn (b : Nat) : Bool := decide (32 ≤ b) && decide (b ≤ 126)

def hexv (b : Nat) : Option Nat := if 48 ≤ b ∧ b ≤ 57 then some (b - 48) else if 97 ≤ b ∧ b ≤ 102 then some (b - 87) else none

def hexd (n : Nat) : Nat := if n < 10 then 48 + n else 87 + n

theorem hexv_hexd {n : Nat} (h : n < 16) : hexv (hexd n) = some n := by
  unfold hexv hexd
  by_cases h1 : n < 10
  · rw [if_pos h1, if_pos (by omega)]
    congr 1
    omega
  · rw [if_neg h1, if_neg (by omega), if_pos (by omega)]
    congr 1
    omega

/-- The signs of escapes, and those that are apart in elements, in classes. -/
def escs : List Nat := [92, 34, 63, 91, 93, 45, 94]
def aptE : List Nat := [92, 34, 63, 91]
def aptC : List Nat := [92, 34, 91, 93, 45, 94]

theorem aptC_escs (x : Nat) (h : aptC.contains x = true) : escs.contains x = true := by
  rw [List.contains_iff_mem] at h ⊢
  simp [aptC, escs] at h ⊢
  omega

theorem aptE_escs (x : Nat) (h : aptE.contains x = true) : escs.contains x = true := by
  rw [List.contains_iff_mem] at h ⊢
  simp [aptE, escs] at h ⊢
  omega

/-- An escape. -/
def esp (s : ByteArray) (at' : Nat) : Rd Nat :=
  if at' + 1 < s.size ∧ escs.contains (byt s (at' + 1)) = true then .ok (byt s (at' + 1), at' + 2)
  else if at' + 3 < s.size ∧ byt s (at' + 1) = 120 ∧ (hexv (byt s (at' + 2))).isSome = true ∧ (hexv (byt s (at' + 3))).isSome = true then .ok (16 * (hexv (byt s (at' + 2))).getD 0 + (hexv (byt s (at' + 3))).getD 0, at' + 4)
  else .error (at', 131)

/-- A byte of a class. -/
def itm (s : ByteArray) (at' : Nat) : Rd Nat :=
  if s.size ≤ at' then .error (s.size, 133)
  else if byt s at' = 92 then esp s at'
  else if sgn (byt s at') = false ∨ [34, 91, 93, 45, 94].contains (byt s at') = true then .error (at', 132)
  else .ok (byt s at', at' + 1)

/-- The items of a class, from a place on. -/
def cli (s : ByteArray) : Nat → Nat → (Nat → Bool) → Nat → Rd ((Nat → Bool) × Nat)
  | 0, at', _, _ => .error (at', 0)
  | fuel + 1, at', out, items =>
    if at' < s.size ∧ byt s at' = 93 then .ok ((out, items), at')
    else match itm s at' with
      | .error e => .error e
      | .ok (a, at1) =>
        if at1 < s.size ∧ byt s at1 = 45 then
          match itm s (at1 + 1) with
          | .error e => .error e
          | .ok (b, at2) => if b < a then .error (at1, 132) else cli s fuel at2 (fun x => out x || rg a (b + 1) x) (items + 1)
        else cli s fuel at1 (fun x => out x || rg a (a + 1) x) (items + 1)

/-- A class, at its bracket. -/
def clr (s : ByteArray) (op : Nat) : Rd (Nat → Bool) :=
  match cli s (s.size + 1) (if op + 1 < s.size ∧ byt s (op + 1) = 94 then op + 2 else op + 1) (fun _ => false) 0 with
  | .error e => .error e
  | .ok ((out, items), at1) =>
    if items = 0 ∨ cb (if op + 1 < s.size ∧ byt s (op + 1) = 94 then fun x => !out x else out) 0 256 = 0 then .error (op, 132)
    else .ok ((if op + 1 < s.size ∧ byt s (op + 1) = 94 then fun x => !out x else out), at1 + 1)

/-- An element, at a place that there is. -/
def elm (s : ByteArray) (at' : Nat) : Rd (Nat → Bool) :=
  if byt s at' = 63 then .ok (fun _ => true, at' + 1)
  else if byt s at' = 91 then clr s at'
  else if byt s at' = 92 then
    match esp s at' with
    | .error e => .error e
    | .ok (b, n) => .ok (rg b (b + 1), n)
  else if sgn (byt s at') = false then .error (at', 130)
  else .ok (rg (byt s at') (byt s at' + 1), at' + 1)

/-- Bytes stand at a place. -/
def hat (s : ByteArray) (p : Nat) : List Nat → Prop
  | [] => p ≤ s.size
  | c :: L => p < s.size ∧ byt s p = c ∧ hat s (p + 1) L

theorem hat_le {s : ByteArray} : ∀ {L : List Nat} {p : Nat}, hat s p L → p + L.length ≤ s.size
  | [], _, h => h
  | _ :: L, p, h => by have := hat_le (L := L) h.2.2; rw [List.length_cons]; omega

theorem hat_app {s : ByteArray} {M : List Nat} : ∀ {L : List Nat} {p : Nat}, hat s p (L ++ M) ↔ hat s p L ∧ hat s (p + L.length) M
  | [], p => by
    simp only [List.nil_append, List.length_nil, Nat.add_zero]
    exact ⟨fun h => ⟨by have := hat_le h; show p ≤ s.size; omega, h⟩, fun h => h.2⟩
  | c :: L, p => by
    rw [List.cons_append, hat, hat, hat_app (L := L), List.length_cons, show p + (L.length + 1) = p + 1 + L.length by omega]
    exact ⟨fun h => ⟨⟨h.1, h.2.1, h.2.2.1⟩, h.2.2.2⟩, fun h => ⟨h.1.1, h.1.2.1, h.1.2.2, h.2⟩⟩

/-- A byte, written; some are apart. -/
def wrt (b : Nat) (apart : List Nat) : List Nat := if sgn b = false then [92, 120, hexd (b / 16), hexd (b % 16)] else if apart.contains b = true then [92, b] else [b]

theorem wrt_len (b : Nat) (A : List Nat) : 1 ≤ (wrt b A).length := by
  unfold wrt
  split
  · simp
  · split <;> simp

/-- An escape that is written is read. -/
theorem esp_wrt {s : ByteArray} {p b : Nat} {A : List Nat} (hb : b < 256) (hA : ∀ x, A.contains x = true → escs.contains x = true) (h : hat s p (wrt b A)) (hx : sgn b = false ∨ A.contains b = true) : byt s p = 92 ∧ p < s.size ∧ esp s p = .ok (b, p + (wrt b A).length) := by
  unfold wrt at h ⊢
  by_cases hs : sgn b = false
  · rw [if_pos hs] at h ⊢
    obtain ⟨h0, e0, h1, e1, h2, e2, h3, e3, h4⟩ := h
    have h4' : p + 1 + 1 + 1 + 1 ≤ s.size := h4
    refine ⟨e0, h0, ?_⟩
    unfold esp
    rw [if_neg (by rw [e1]; intro hh; exact absurd hh.2 (by decide)), show p + 3 = p + 1 + 1 + 1 by omega, show p + 2 = p + 1 + 1 by omega, e1, e2, e3, hexv_hexd (by omega), hexv_hexd (by omega), if_pos ⟨by omega, rfl, rfl, rfl⟩]
    simp only [Option.getD_some, List.length_cons, List.length_nil]
    congr 2
    omega
  · have ha : A.contains b = true := hx.resolve_left hs
    rw [if_neg hs, if_pos ha] at h ⊢
    obtain ⟨h0, e0, h1, e1, _⟩ := h
    refine ⟨e0, h0, ?_⟩
    unfold esp
    rw [e1, if_pos ⟨h1, hA b ha⟩]
    rfl

/-- A byte of a class that is written is read. -/
theorem itm_wrt {s : ByteArray} {p b : Nat} (hb : b < 256) (h : hat s p (wrt b aptC)) : itm s p = .ok (b, p + (wrt b aptC).length) := by
  by_cases hx : sgn b = false ∨ aptC.contains b = true
  · obtain ⟨e, hlt, he⟩ := esp_wrt hb aptC_escs h hx
    unfold itm
    rw [if_neg (by omega), if_pos e, he]
  · have hs : ¬ sgn b = false := fun e => hx (.inl e)
    have ha : ¬ aptC.contains b = true := fun e => hx (.inr e)
    unfold wrt at h ⊢
    rw [if_neg hs, if_neg ha] at h ⊢
    obtain ⟨h0, e0, _⟩ := h
    unfold itm
    have hn : ¬ b = 92 := fun e => ha (by rw [e]; decide)
    have hm : ¬ [34, 91, 93, 45, 94].contains b = true := fun e => ha (by
      rw [List.contains_iff_mem] at e ⊢
      simp [aptC] at e ⊢
      omega)
    rw [if_neg (by omega), e0, if_neg hn, if_neg (by rintro (e | e); exact hs e; exact hm e)]
    rfl

/-- What a text of a byte of a class begins with is no bracket, and no minus. -/
theorem wrt_head {s : ByteArray} {p b : Nat} (h : hat s p (wrt b aptC)) : byt s p ≠ 93 ∧ byt s p ≠ 45 ∧ byt s p ≠ 94 := by
  unfold wrt at h
  split at h
  · rw [h.2.1]; decide
  · split at h
    · rw [h.2.1]; decide
    · rename_i hs ha
      rw [h.2.1]
      refine ⟨fun e => ha (by rw [e]; decide), fun e => ha (by rw [e]; decide), fun e => ha (by rw [e]; decide)⟩

/-- A run of bytes, written. -/
def run1 (r : Nat × Nat) : List Nat := wrt r.1 aptC ++ ((if r.1 + 1 < r.2 then [45] else []) ++ (if r.1 < r.2 then wrt r.2 aptC else []))

/-- Runs, written. -/
def runs1 (L : List (Nat × Nat)) : List Nat := L.flatMap run1

/-- The text of an element. -/
def elt (f : Nat → Bool) : Option (List Nat) :=
  if cb f 0 256 = 0 then none else if cb f 0 256 = 256 then some [63] else if sg f = true then some (wrt (bt f) aptE) else some (91 :: (runs1 (rr f 256) ++ [93]))

/-- One item, that no minus follows. -/
theorem cli_one {s : ByteArray} {fuel p b : Nat} {out : Nat → Bool} {items : Nat} (hb : b < 256) (h : hat s p (wrt b aptC)) (hn : ¬ (p + (wrt b aptC).length < s.size ∧ byt s (p + (wrt b aptC).length) = 45)) :
    cli s (fuel + 1) p out items = cli s fuel (p + (wrt b aptC).length) (fun x => out x || rg b (b + 1) x) (items + 1) := by
  have hh := (wrt_head h).1
  rw [cli, if_neg (fun e => hh e.2), itm_wrt hb h]
  simp only
  rw [if_neg hn]

/-- A range. -/
theorem cli_two {s : ByteArray} {fuel p a b : Nat} {out : Nat → Bool} {items : Nat} (ha : a < 256) (hb : b < 256) (hab : a ≤ b) (h : hat s p (wrt a aptC)) (h45 : hat s (p + (wrt a aptC).length) [45]) (h2 : hat s (p + (wrt a aptC).length + 1) (wrt b aptC)) :
    cli s (fuel + 1) p out items = cli s fuel (p + (wrt a aptC).length + 1 + (wrt b aptC).length) (fun x => out x || rg a (b + 1) x) (items + 1) := by
  have hh := (wrt_head h).1
  rw [cli, if_neg (fun e => hh e.2), itm_wrt ha h]
  simp only
  rw [if_pos ⟨h45.1, h45.2.1⟩, itm_wrt hb h2]
  simp only
  rw [if_neg (by omega)]

/-- Where runs stand, with a bracket behind them, no minus comes first. -/
theorem runs_head {s : ByteArray} {p : Nat} {L : List (Nat × Nat)} (h : hat s p (runs1 L ++ [93])) : ¬ (p < s.size ∧ byt s p = 45) := by
  cases L with
  | nil =>
    have h' : hat s p [93] := h
    rintro ⟨_, e⟩
    rw [h'.2.1] at e
    cases e
  | cons r L =>
    unfold runs1 at h
    rw [List.flatMap_cons, List.append_assoc] at h
    unfold run1 at h
    rw [List.append_assoc, hat_app] at h
    exact fun e => (wrt_head h.1).2.1 e.2

/-- Runs that are written are read. -/
theorem cli_runs {s : ByteArray} : ∀ (L : List (Nat × Nat)) (fuel p : Nat) (out : Nat → Bool) (items : Nat), (∀ r ∈ L, r.1 ≤ r.2 ∧ r.2 < 256) → hat s p (runs1 L ++ [93]) → (runs1 L).length < fuel →
    ∃ (o : Nat → Bool) (k : Nat), cli s fuel p out items = .ok ((o, items + k), p + (runs1 L).length) ∧ (∀ x, o x = (out x || un L x)) ∧ L.length ≤ k
  | [], fuel, p, out, items, _, h, hf => by
    obtain ⟨f, rfl⟩ : ∃ f, fuel = f + 1 := ⟨fuel - 1, by omega⟩
    have h' : hat s p [93] := h
    refine ⟨out, 0, ?_, fun x => by simp [un], Nat.le_refl _⟩
    rw [cli, if_pos ⟨h'.1, h'.2.1⟩]
    rfl
  | r :: L, fuel, p, out, items, hL, h, hf => by
    have hr := hL r (List.mem_cons_self ..)
    have e1 : runs1 (r :: L) = run1 r ++ runs1 L := List.flatMap_cons
    rw [e1, List.append_assoc, hat_app] at h
    have hnext := runs_head h.2
    have fin : ∀ (f q : Nat) (out' : Nat → Bool) (it : Nat), q = p + (run1 r).length → (runs1 L).length < f → (∀ x, out' x = (out x || rg r.1 (r.2 + 1) x)) → items + 1 ≤ it →
        ∃ (o : Nat → Bool) (k : Nat), cli s f q out' it = .ok ((o, items + k), p + (runs1 (r :: L)).length) ∧ (∀ x, o x = (out x || un (r :: L) x)) ∧ (r :: L).length ≤ k := by
      intro f q out' it hq hf' ho hit
      subst hq
      obtain ⟨o, k, h1, h2, h3⟩ := cli_runs L f (p + (run1 r).length) out' it (fun x hx => hL x (List.mem_cons_of_mem _ hx)) h.2 hf'
      refine ⟨o, it - items + k, ?_, fun x => ?_, by rw [List.length_cons]; omega⟩
      · rw [h1, e1, List.length_append, show items + (it - items + k) = it + k by omega, Nat.add_assoc]
      · rw [h2, ho]
        simp [un, Bool.or_assoc]
    rw [e1, List.length_append] at hf
    have h1 := h.1
    have wa := wrt_len r.1 aptC
    have wb := wrt_len r.2 aptC
    unfold run1 at h1 hnext fin hf
    by_cases ha : r.1 < r.2
    · by_cases hb : r.1 + 1 < r.2
      · rw [if_pos hb, if_pos ha] at h1 fin hf
        simp only [List.length_append, List.length_cons, List.length_nil] at hf
        rw [hat_app, hat_app] at h1
        obtain ⟨f, rfl⟩ : ∃ f, fuel = f + 1 := ⟨fuel - 1, by omega⟩
        rw [cli_two (by omega) hr.2 hr.1 h1.1 h1.2.1 h1.2.2]
        exact fin f _ _ _ (by simp; omega) (by omega) (fun _ => rfl) (Nat.le_refl _)
      · have e2 : r.2 = r.1 + 1 := by omega
        rw [if_neg hb, if_pos ha, List.nil_append] at h1 hnext fin hf
        rw [List.length_append] at hf
        rw [hat_app] at h1
        obtain ⟨f, rfl⟩ : ∃ f, fuel = f + 1 + 1 := ⟨fuel - 2, by omega⟩
        have hh2 := wrt_head h1.2
        rw [cli_one (by omega) h1.1 (fun e => hh2.2.1 e.2), cli_one hr.2 h1.2 (by rw [List.length_append] at hnext; rw [Nat.add_assoc]; exact hnext)]
        refine fin f _ _ _ (by simp; omega) (by omega) (fun x => ?_) (by omega)
        rw [Bool.or_assoc]
        congr 1
        rw [e2]
        unfold rg
        rw [Bool.eq_iff_iff]
        simp
        omega
    · have e2 : r.2 = r.1 := by omega
      rw [if_neg (by omega), if_neg ha, List.append_nil, List.append_nil] at h1 hnext fin hf
      obtain ⟨f, rfl⟩ : ∃ f, fuel = f + 1 := ⟨fuel - 1, by omega⟩
      rw [cli_one (by omega) h1 hnext]
      exact fin f _ _ _ rfl (by omega) (fun x => by rw [e2]) (Nat.le_refl _)

theorem rr_some {f : Nat → Bool} (h : cb f 0 256 ≠ 0) : rr f 256 ≠ [] := by
  intro e
  apply h
  rw [cb_none]
  intro x hx
  have := un_rr f 256 x
  rw [e] at this
  simp [un] at this
  exact this hx

theorem sm_of {f g : Nat → Bool} (h : ∀ x, x < 256 → f x = g x) : sm f g = true := sm_true h

/-- A class that is written is read. -/
theorem clr_elt {s : ByteArray} {p : Nat} {f : Nat → Bool} (hf : cb f 0 256 ≠ 0) (h : hat s p (91 :: (runs1 (rr f 256) ++ [93]))) :
    ∃ o, clr s p = .ok (o, p + (91 :: (runs1 (rr f 256) ++ [93])).length) ∧ sm o f = true := by
  have hle := hat_le h
  simp only [List.length_cons, List.length_append, List.length_nil] at hle
  have h1 := h.2.2
  have hne := rr_some hf
  have hn94 : ¬ (p + 1 < s.size ∧ byt s (p + 1) = 94) := by
    cases hL : rr f 256 with
    | nil => exact absurd hL hne
    | cons r L =>
      rw [hL] at h1
      unfold runs1 at h1
      rw [List.flatMap_cons, List.append_assoc] at h1
      unfold run1 at h1
      rw [List.append_assoc, hat_app] at h1
      exact fun e => (wrt_head h1.1).2.2 e.2
  obtain ⟨o, k, e, ho, hk⟩ := cli_runs (s := s) (rr f 256) (s.size + 1) (p + 1) (fun _ => false) 0 (fun r hr => rr_lt f 256 r hr) h1 (by omega)
  have hof : ∀ x, x < 256 → o x = f x := fun x hx => by
    rw [ho, un_rr]
    simp [hx]
  have hlen : 1 ≤ (rr f 256).length := by
    cases hL : rr f 256 with
    | nil => exact absurd hL hne
    | cons r L => simp
  refine ⟨o, ?_, sm_of hof⟩
  unfold clr
  simp only [if_neg hn94]
  rw [e]
  simp only
  rw [if_neg]
  · simp only [List.length_cons, List.length_append, List.length_nil]
    congr 2
    omega
  · rintro (h0 | h0)
    · omega
    · apply hf
      rw [cb_none] at h0 ⊢
      intro x hx
      rw [← hof x hx]
      exact h0 x hx

/-- An element that is written is read. -/
theorem elm_elt {s : ByteArray} {p : Nat} {f : Nat → Bool} {L : List Nat} (hL : elt f = some L) (h : hat s p L) : ∃ o, elm s p = .ok (o, p + L.length) ∧ sm o f = true := by
  unfold elt at hL
  split at hL
  · cases hL
  rename_i h0
  split at hL
  · rename_i h1
    cases hL
    refine ⟨fun _ => true, ?_, ?_⟩
    · unfold elm
      rw [if_pos h.2.1]
      rfl
    · rw [sm_comm]
      have : fr f = true := by rw [fr_size, h1]; rfl
      exact this
  split at hL
  · rename_i hs
    cases hL
    have hb := bt_lt f
    refine ⟨rg (bt f) (bt f + 1), ?_, ?_⟩
    · by_cases hx : sgn (bt f) = false ∨ aptE.contains (bt f) = true
      · obtain ⟨e, _, he⟩ := esp_wrt hb aptE_escs h hx
        unfold elm
        rw [if_neg (by omega), if_neg (by omega), if_pos e, he]
      · have hs' : ¬ sgn (bt f) = false := fun e => hx (.inl e)
        have ha : ¬ aptE.contains (bt f) = true := fun e => hx (.inr e)
        unfold wrt at h ⊢
        rw [if_neg hs', if_neg ha] at h ⊢
        unfold elm
        rw [h.2.1, if_neg (fun e => ha (by rw [e]; decide)), if_neg (fun e => ha (by rw [e]; decide)), if_neg (fun e => ha (by rw [e]; decide)), if_neg hs']
        rfl
    · refine sm_of (fun x hx => ?_)
      rcases sgl_sg f with ⟨_, _, hf⟩ | ⟨hf, _, _⟩
      · rw [hf x hx]
        unfold rg
        rw [Bool.eq_iff_iff]
        simp
        omega
      · rw [hf] at hs; cases hs
  · cases hL
    obtain ⟨o, e, ho⟩ := clr_elt h0 h
    refine ⟨o, ?_, ho⟩
    unfold elm
    rw [if_neg (by rw [h.2.1]; decide), if_pos h.2.1, e]

/-- A text of an element begins with no quote. -/
theorem elt_head {s : ByteArray} {p : Nat} {f : Nat → Bool} {L : List Nat} (hL : elt f = some L) (h : hat s p L) : p < s.size ∧ byt s p ≠ 34 ∧ 1 ≤ L.length := by
  unfold elt at hL
  split at hL
  · cases hL
  split at hL
  · cases hL
    exact ⟨h.1, by rw [h.2.1]; decide, by simp⟩
  split at hL
  · cases hL
    refine ⟨?_, ?_, wrt_len _ _⟩
    · unfold wrt at h
      split at h
      · exact h.1
      · split at h <;> exact h.1
    · unfold wrt at h
      split at h
      · rw [h.2.1]; decide
      · split at h
        · rw [h.2.1]; decide
        · rename_i ha
          rw [h.2.1]
          exact fun e => ha (by rw [e]; decide)
  · cases hL
    exact ⟨h.1, by rw [h.2.1]; decide, by simp⟩

/-- The elements of a pattern, from a place on. -/
def ptl (s : ByteArray) : Nat → Nat → List (Nat → Bool) → Rd (List (Nat → Bool))
  | 0, at', _ => .error (at', 0)
  | fuel + 1, at', out =>
    if s.size ≤ at' then .error (s.size, 133)
    else if byt s at' = 34 then (if out.length = 0 then .error (at', 135) else .ok (out, at' + 1))
    else if out.length = 64 then .error (at', 135)
    else match elm s at' with
      | .error e => .error e
      | .ok (c, n) => ptl s fuel n (out ++ [c])

/-- Rows of sets that are the same, one by one. -/
def sml' : List (Nat → Bool) → List (Nat → Bool) → Prop
  | [], [] => True
  | f :: L, g :: M => sm f g = true ∧ sml' L M
  | _, _ => False

/-- The texts of elements, one behind the other. -/
def elts : List (Nat → Bool) → Option (List Nat)
  | [] => some []
  | f :: L => match elt f, elts L with
    | some a, some b => some (a ++ b)
    | _, _ => none

/-- A pattern that is written is read. -/
theorem ptl_elts {s : ByteArray} : ∀ (L : List (Nat → Bool)) (T : List Nat) (fuel p : Nat) (out : List (Nat → Bool)), elts L = some T → hat s p (T ++ [34]) → T.length < fuel → out.length + L.length ≤ 64 → 1 ≤ out.length + L.length →
    ∃ M, ptl s fuel p out = .ok (out ++ M, p + T.length + 1) ∧ sml' M L
  | [], T, fuel, p, out, hT, h, hf, _, h1 => by
    cases hT
    obtain ⟨f, rfl⟩ : ∃ f, fuel = f + 1 := ⟨fuel - 1, by omega⟩
    have h' : hat s p [34] := h
    refine ⟨[], ?_, trivial⟩
    rw [ptl, if_neg (by have := h'.1; omega), if_pos h'.2.1, if_neg (by simp at h1; omega), List.append_nil]
    rfl
  | g :: L, T, fuel, p, out, hT, h, hf, h64, _ => by
    unfold elts at hT
    cases ha : elt g with
    | none => rw [ha] at hT; simp at hT
    | some a =>
      cases hb : elts L with
      | none => rw [ha, hb] at hT; simp at hT
      | some b =>
        rw [ha, hb] at hT
        simp only [Option.some.injEq] at hT
        subst hT
        rw [List.append_assoc, hat_app] at h
        obtain ⟨hlt, h34, hl1⟩ := elt_head ha h.1
        obtain ⟨o, ho, hs⟩ := elm_elt ha h.1
        obtain ⟨f, rfl⟩ : ∃ f, fuel = f + 1 := ⟨fuel - 1, by omega⟩
        rw [List.length_append] at hf
        rw [List.length_cons] at h64
        obtain ⟨M, hM, hsm⟩ := ptl_elts L b f (p + a.length) (out ++ [o]) hb h.2 (by omega) (by simp; omega) (by simp; omega)
        refine ⟨o :: M, ?_, hs, hsm⟩
        rw [ptl, if_neg (by omega), if_neg h34, if_neg (by omega), ho]
        simp only
        rw [hM, List.append_assoc, List.length_append, Nat.add_assoc p]
        rfl

end Cls

end Go.Proofs.YtbnnobeahliffaaGreatDoor

namespace Go.Proofs.YtbnnobeahliffaaGreatDoor
open Go.RowKit
namespace Cls

/-- A digit's number; below 0: it is none. -/
def hxi (b : Nat) : Int := match hexv b with | some v => (v : Int) | none => -1

theorem hxi_dec {b : Nat} (h : 48 ≤ b ∧ b ≤ 57) : hxi b = (b : Int) - 48 := by
  unfold hxi hexv
  rw [if_pos h]
  show ((b - 48 : Nat) : Int) = _
  omega

theorem hxi_let {b : Nat} (h : 97 ≤ b ∧ b ≤ 102) : hxi b = (b : Int) - 87 := by
  unfold hxi hexv
  rw [if_neg (by omega), if_pos h]
  show ((b - 87 : Nat) : Int) = _
  omega

theorem hxi_no {b : Nat} (h : ¬ (48 ≤ b ∧ b ≤ 57)) (h2 : ¬ (97 ≤ b ∧ b ≤ 102)) : hxi b = -1 := by
  unfold hxi hexv
  rw [if_neg h, if_neg h2]

theorem hxi_some (b : Nat) : (0 ≤ hxi b) ↔ (hexv b).isSome = true := by
  unfold hxi
  cases hexv b with
  | none => simp
  | some v => simp

theorem hxi_get {b : Nat} (h : 0 ≤ hxi b) : hxi b = (((hexv b).getD 0 : Nat) : Int) ∧ (hexv b).getD 0 < 16 := by
  by_cases h1 : 48 ≤ b ∧ b ≤ 57
  · rw [hxi_dec h1]
    unfold hexv
    rw [if_pos h1]
    show _ = ((b - 48 : Nat) : Int) ∧ b - 48 < 16
    omega
  · by_cases h2 : 97 ≤ b ∧ b ≤ 102
    · rw [hxi_let h2]
      unfold hexv
      rw [if_neg h1, if_pos h2]
      show _ = ((b - 87 : Nat) : Int) ∧ b - 87 < 16
      omega
    · rw [hxi_no h1 h2] at h
      omega

set_option maxHeartbeats 1000000 in
theorem hex13_any (b : Nat) (hb : b < 256) (w : World) :
    Calls Tryz.prog 120 #[.int .u8 (b : Int)] w fun e w' => e = .returned (.int .i64 (hxi b)) ∧ Below w.heap.size w w' := by
  have hw1 : IntKind.i64.wrap (b : Int) = (b : Int) := by rw [IntKind.wrap_i64]; omega
  by_cases h1 : 48 ≤ b
  · have h1I : (48 : Int) ≤ (b : Int) := by omega
    by_cases h2 : b ≤ 57
    · have h2I : (b : Int) ≤ 57 := by omega
      have hw2 : IntKind.i64.wrap ((b : Int) - 48) = (b : Int) - 48 := by rw [IntKind.wrap_i64]; omega
      rw [hxi_dec ⟨h1, h2⟩]
      go_enter Tryz.func120, Tryz.ntmps120
      go_wp2_with fail
      go_ret
      exact ⟨rfl, Below.refl _ _⟩
    · have h2I : ¬ (b : Int) ≤ 57 := by omega
      by_cases h3 : 97 ≤ b
      · have h3I : (97 : Int) ≤ (b : Int) := by omega
        by_cases h4 : b ≤ 102
        · have h4I : (b : Int) ≤ 102 := by omega
          have hw2 : IntKind.i64.wrap ((b : Int) - 87) = (b : Int) - 87 := by rw [IntKind.wrap_i64]; omega
          rw [hxi_let ⟨h3, h4⟩]
          go_enter Tryz.func120, Tryz.ntmps120
          go_wp2_with fail
          go_ret
          exact ⟨rfl, Below.refl _ _⟩
        · have h4I : ¬ (b : Int) ≤ 102 := by omega
          rw [hxi_no (by omega) (by omega)]
          go_enter Tryz.func120, Tryz.ntmps120
          go_wp2_with fail
          go_ret
          exact ⟨rfl, Below.refl _ _⟩
      · have h3I : ¬ (97 : Int) ≤ (b : Int) := by omega
        rw [hxi_no (by omega) (by omega)]
        go_enter Tryz.func120, Tryz.ntmps120
        go_wp2_with fail
        go_ret
        exact ⟨rfl, Below.refl _ _⟩
  · have h1I : ¬ (48 : Int) ≤ (b : Int) := by omega
    have h3I : ¬ (97 : Int) ≤ (b : Int) := by omega
    rw [hxi_no (by omega) (by omega)]
    go_enter Tryz.func120, Tryz.ntmps120
    go_wp2_with fail
    go_ret
    exact ⟨rfl, Below.refl _ _⟩

set_option maxHeartbeats 1000000 in
theorem sign13_any (b : Nat) (w : World) :
    Calls Tryz.prog 100 #[.int .u8 (b : Int)] w fun e w' => e = .returned (.bool (sgn b)) ∧ Below w.heap.size w w' := by
  by_cases h1 : 32 ≤ b
  · have h1I : (32 : Int) ≤ (b : Int) := by omega
    by_cases h2 : b ≤ 126
    · have h2I : (b : Int) ≤ 126 := by omega
      rw [show sgn b = true by unfold sgn; rw [decide_eq_true h1, decide_eq_true h2]; rfl]
      go_enter Tryz.func100, Tryz.ntmps100
      go_wp2_with fail
      go_ret
      exact ⟨rfl, Below.refl _ _⟩
    · have h2I : ¬ (b : Int) ≤ 126 := by omega
      rw [show sgn b = false by unfold sgn; rw [decide_eq_false h2, Bool.and_false]]
      go_enter Tryz.func100, Tryz.ntmps100
      go_wp2_with fail
      go_ret
      exact ⟨rfl, Below.refl _ _⟩
  · have h1I : ¬ (32 : Int) ≤ (b : Int) := by omega
    rw [show sgn b = false by unfold sgn; rw [decide_eq_false h1, Bool.false_and]]
    go_enter Tryz.func100, Tryz.ntmps100
    go_wp2_with fail
    go_ret
    exact ⟨rfl, Below.refl _ _⟩

/-- Is a byte one of a text's? -/
def isin (s : ByteArray) (b : Nat) : Bool := (List.range s.size).any fun k => byt s k == b

theorem isin_yes {s : ByteArray} {b k : Nat} (hk : k < s.size) (h : byt s k = b) : isin s b = true := List.any_eq_true.2 ⟨k, List.mem_range.2 hk, by rw [h]; exact beq_self_eq_true b⟩

theorem isin_no {s : ByteArray} {b : Nat} (h : ∀ k, k < s.size → byt s k ≠ b) : isin s b = false := by
  rw [← Bool.not_eq_true]
  intro hh
  obtain ⟨k, hk, he⟩ := List.any_eq_true.1 hh
  exact h k (List.mem_range.1 hk) (by simpa using he)

set_option maxHeartbeats 1000000 in
theorem in13_any (s : ByteArray) (b : Nat) (hs : s.size ≤ 1000000) (w : World) :
    Calls Tryz.prog 109 #[.string s, .int .u8 (b : Int)] w fun e w' => e = .returned (.bool (isin s b)) ∧ Below w.heap.size w w' := by
  go_enter Tryz.func109, Tryz.ntmps109
  go_wp2_with fail
  go_loopw [5] (fun vk wr => Below w.heap.size w wr ∧ ∃ k : Nat, k ≤ s.size ∧ vk = .int .i64 k ∧ ∀ t, t < k → byt s t ≠ b) (fun vk _ => s.size - (intOf vk).toNat)
  case atStart => exact ⟨Below.refl _ _, 0, Nat.zero_le _, rfl, fun t ht => by omega⟩
  case round =>
    obtain ⟨hbel, k, hk, rfl, hall⟩ := hrel
    have HB : Hid _ := hbel
    have HA : Hid _ := hall
    clear hall hbel
    by_cases hkn : k < s.size
    · have hkI : (k : Int) < (s.size : Int) := by omega
      have hix : ∀ w, (Instr.index 9 (.string s) (.int .i64 (k : Int))).run Tryz.prog w = .ok (.int .u8 ((byt s k : Nat) : Int)) w := fun w => idx_str s k hkn w
      by_cases hq : byt s k = b
      · have HY : Hid (isin s b = true) := isin_yes hkn hq
        rw [hq] at hix
        go_wp2_with fail
        go_ret
        exact ⟨by rw [HY.out]; rfl, HB.out⟩
      · have HS : Hid (∀ t, t < k + 1 → byt s t ≠ b) := fun t ht => by
          by_cases e : t = k
          · subst e; exact hq
          · exact HA.out t (by omega)
        have hqI : ¬ ((byt s k : Nat) : Int) = (b : Int) := by omega
        generalize byt s k = x at *
        go_wp2_with fail
        go_roundw
        case rel => exact ⟨HB.out, k + 1, by omega, by go_num, HS.out⟩
        case measure => simp [intOf]; omega
    · obtain rfl : k = s.size := by omega
      have HN : Hid (isin s b = false) := isin_no HA.out
      go_wp2_with fail
      go_ret
      exact ⟨by rw [HN.out]; rfl, HB.out⟩

def escT : ByteArray := ⟨#[92, 34, 63, 91, 93, 45, 94]⟩
def itmT : ByteArray := ⟨#[34, 91, 93, 45, 94]⟩
def aptET : ByteArray := ⟨#[92, 34, 63, 91]⟩
def aptCT : ByteArray := ⟨#[92, 34, 91, 93, 45, 94]⟩

theorem isin_lst (L : List Nat) (s : ByteArray) (hs : s.size = L.length) (h : ∀ k, (hk : k < L.length) → byt s k = L[k]) (b : Nat) : isin s b = L.contains b := by
  rw [Bool.eq_iff_iff, List.contains_iff_mem]
  constructor
  · intro hh
    obtain ⟨k, hk, he⟩ := List.any_eq_true.1 hh
    have hk2 : k < L.length := by rw [← hs]; exact List.mem_range.1 hk
    rw [h k hk2] at he
    rw [← (by simpa using he : L[k] = b)]
    exact List.getElem_mem hk2
  · intro hh
    obtain ⟨k, hk, he⟩ := List.getElem_of_mem hh
    exact isin_yes (by rw [hs]; exact hk) (by rw [h k hk, he])

theorem isin_esc (b : Nat) : isin escT b = escs.contains b := isin_lst escs escT rfl (by decide) b

theorem isin_itm (b : Nat) : isin itmT b = [34, 91, 93, 45, 94].contains b := isin_lst [34, 91, 93, 45, 94] itmT rfl (by decide) b

theorem isin_aptE (b : Nat) : isin aptET b = aptE.contains b := isin_lst aptE aptET rfl (by decide) b

theorem isin_aptC (b : Nat) : isin aptCT b = aptC.contains b := isin_lst aptC aptCT rfl (by decide) b

end Cls

end Go.Proofs.YtbnnobeahliffaaGreatDoor
