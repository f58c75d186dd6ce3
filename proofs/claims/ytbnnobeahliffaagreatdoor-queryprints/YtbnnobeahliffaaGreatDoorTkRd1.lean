/- Contracts of token's sign, bare, readEscape, readByte; of strings.IndexByte. -/
import Derived.Test.YtbnnobeahliffaaGreatDoorTkA
import Derived.Test.YtbnnobeahliffaaGreatDoorTkLex
import Derived.Test.YtbnnobeahliffaaGreatDoorTkShelf
import Derived.ScopeJumps
import Derived.Laws.Strings3
set_option linter.unusedVariables false
namespace Go.Proofs.YtbnnobeahliffaaGreatDoor
open Go.RowKit
namespace Cls

/-- A scope with one label, to which the run comes from above and from below. -/
theorem wp_scope_once {P : Program} {a : Act} {w : World} {Q : Exit → Act → World → Prop} {c rest : Code} (l : Nat) (J : Act → World → Prop) (μ : Act → World → Nat) (hf : findLabel c l = some (.seq .skip rest))
    (pass : ∀ a w, J a w → rest.wp P (Exit.jump l (fun a' w' => J a' w' ∧ μ a' w' < μ a w) Q) a w)
    (first : (∀ a w, J a w → rest.wp P (Exit.jump l J Q) a w) → c.wp P (Exit.jump l J Q) a w) : (Code.scope c).wp P Q a w :=
  wp_scope_jumps l J μ hf (first fun a w h => Go.wp_mono (pass a w h) (fun e a' w' hq => by
    cases e with
    | goto l' => exact ⟨hq.1, hq.2.1⟩
    | normal => exact hq
    | exit id => exact hq
    | ret => exact hq
    | panic ch => exact hq
    | outgrown => exact hq)) (fun a w h => Go.wp_seq (Go.wp_skip (pass a w h)))

/-- The place of a byte in a text; below 0: there is none. -/
def fpos (s : ByteArray) (b : Nat) : Int := Lib.indexByte s.data.toList b.toUInt8

theorem fpos_any (s : ByteArray) (b : Nat) (w : World) :
    Calls Tryz.prog 57 #[.string s, .int .u8 (b : Int)] w fun e w' => e = .returned (.int .i64 (fpos s b)) ∧ w' = w := by
  have h := Sh.strings_IndexByte s (b : Int) w
  rw [Int.toNat_natCast] at h
  exact h

/-- Signs that are apart among elements, in a class, as the program has them; digits; kinds. -/
def elT : ByteArray := ⟨#[34, 63, 91, 92]⟩
def itT : ByteArray := ⟨#[34, 91, 93, 45, 94, 92]⟩
def hxT : ByteArray := ⟨#[48, 49, 50, 51, 52, 53, 54, 55, 56, 57, 97, 98, 99, 100, 101, 102]⟩
def knT : ByteArray := ⟨#[40, 41, 38, 124, 33, 62, 126, 34]⟩

theorem of_all {p : Nat → Bool} {n : Nat} (h : (List.range n).all p = true) {b : Nat} (hb : b < n) : p b = true := List.all_eq_true.1 h b (List.mem_range.2 hb)

theorem neg_of_all {F : Nat → Int} {g : Nat → Bool} (h : (List.range 256).all (fun b => decide (F b < 0) == !g b) = true) {b : Nat} (hb : b < 256) : (F b < 0) ↔ g b = false := by
  have h1 : (decide (F b < 0) == !g b) = true := of_all h hb
  have h2 : decide (F b < 0) = !g b := beq_iff_eq.1 h1
  have h3 : (F b < 0) ↔ decide (F b < 0) = true := decide_eq_true_iff.symm
  rw [h3, h2]
  cases g b <;> simp

theorem fpos_el {b : Nat} (hb : b < 256) : (fpos elT b < 0) ↔ aptE.contains b = false := neg_of_all (F := fpos elT) (g := fun b => aptE.contains b) (by kernel_rfl) hb

theorem fpos_it {b : Nat} (hb : b < 256) : (fpos itT b < 0) ↔ aptC.contains b = false := neg_of_all (F := fpos itT) (g := fun b => aptC.contains b) (by kernel_rfl) hb

theorem fpos_esc {b : Nat} (hb : b < 256) : (fpos escT b < 0) ↔ escs.contains b = false := neg_of_all (F := fpos escT) (g := fun b => escs.contains b) (by kernel_rfl) hb

theorem fpos_hex {b : Nat} (hb : b < 256) : fpos hxT b = hxi b := by
  have h : (List.range 256).all (fun b => decide (fpos hxT b = hxi b)) = true := by kernel_rfl
  simpa using of_all h hb

/-- A kind, a pattern's too. -/
def knd8 (b : Nat) : Nat := if b = 34 then 8 else knd b

theorem fpos_kn {b : Nat} (hb : b < 256) : fpos knT b + 1 = (knd8 b : Int) := by
  have h : (List.range 256).all (fun b => decide (fpos knT b + 1 = (knd8 b : Int))) = true := by kernel_rfl
  simpa using of_all h hb

set_option maxHeartbeats 1000000 in
theorem sign_any (b : Nat) (w : World) :
    Calls Tryz.prog 124 #[.int .u8 (b : Int)] w fun e w' => e = .returned (.bool (sgn b)) ∧ w' = w := by
  by_cases h1 : 32 ≤ b
  · have h1I : (32 : Int) ≤ (b : Int) := by omega
    by_cases h2 : b ≤ 126
    · have h2I : (b : Int) ≤ 126 := by omega
      rw [show sgn b = true by unfold sgn; rw [decide_eq_true h1, decide_eq_true h2]; rfl]
      go_enter Tryz.func124, Tryz.ntmps124
      go_wp2_with fail
      go_ret
      exact ⟨rfl, rfl⟩
    · have h2I : ¬ (b : Int) ≤ 126 := by omega
      rw [show sgn b = false by unfold sgn; rw [decide_eq_false h2, Bool.and_false]]
      go_enter Tryz.func124, Tryz.ntmps124
      go_wp2_with fail
      go_ret
      exact ⟨rfl, rfl⟩
  · have h1I : ¬ (32 : Int) ≤ (b : Int) := by omega
    rw [show sgn b = false by unfold sgn; rw [decide_eq_false h1, Bool.false_and]]
    go_enter Tryz.func124, Tryz.ntmps124
    go_wp2_with fail
    go_ret
    exact ⟨rfl, rfl⟩

set_option maxHeartbeats 1000000 in
theorem bare_any (T : ByteArray) (x : Bool) (b : Nat) (h : (fpos T b < 0) ↔ x = false) (w : World) :
    Calls Tryz.prog 115 #[.int .u8 (b : Int), .string T] w fun e w' => e = .returned (.bool (sgn b && !x)) ∧ w' = w := by
  have CS : Hid _ := fun (v : World) => sign_any b v
  have CF : Hid _ := fun (v : World) => fpos_any T b v
  cases hs : sgn b with
  | false =>
    rw [hs] at CS
    go_enter Tryz.func115, Tryz.ntmps115
    go_wp2_with fail
    refine Calls.mono (CS.out w) ?_; rintro e w2 ⟨rfl, rfl⟩
    go_wp2_with fail
    go_ret
    exact ⟨rfl, rfl⟩
  | true =>
    rw [hs] at CS
    obtain ⟨f, hf⟩ : ∃ f, fpos T b = f := ⟨_, rfl⟩
    rw [hf] at CF h
    cases hx : x with
    | false =>
      have h1 : f < 0 := h.2 hx
      go_enter Tryz.func115, Tryz.ntmps115
      go_wp2_with fail
      refine Calls.mono (CS.out w) ?_; rintro e w2 ⟨rfl, rfl⟩
      go_wp2_with fail
      refine Calls.mono (CF.out _) ?_; rintro e w2 ⟨rfl, rfl⟩
      go_wp2_with fail
      go_ret
      exact ⟨rfl, rfl⟩
    | true =>
      have h1 : ¬ f < 0 := fun e => by have := h.1 e; rw [hx] at this; cases this
      go_enter Tryz.func115, Tryz.ntmps115
      go_wp2_with fail
      refine Calls.mono (CS.out w) ?_; rintro e w2 ⟨rfl, rfl⟩
      go_wp2_with fail
      refine Calls.mono (CF.out _) ?_; rintro e w2 ⟨rfl, rfl⟩
      go_wp2_with fail
      go_ret
      exact ⟨rfl, rfl⟩

/-- What is read of a byte, as the program has it. -/
def rdt : Rd Nat → Value
  | .ok (b, n) => .tuple #[.int .u8 (b : Int), .int .i64 (n : Int), .int .i64 0]
  | .error (p, c) => .tuple #[.int .u8 0, .int .i64 (p : Int), .int .i64 (c : Int)]

theorem byt_ext (s : ByteArray) (q j : Nat) (h : q + j < s.size) : byt (s.extract q s.size) j = byt s (q + j) := by
  have hs : (s.extract q s.size).size = s.size - q := by rw [ByteArray.size_extract]; omega
  rw [byt_at _ _ (show j < (s.extract q s.size).size by omega), byt_at _ _ h]
  rw [ByteArray.getElem_extract]

theorem esp_sign {s : ByteArray} {q : Nat} (h1 : q + 1 < s.size) (h2 : escs.contains (byt s (q + 1)) = true) : esp s q = .ok (byt s (q + 1), q + 2) := by
  unfold esp; rw [if_pos ⟨h1, h2⟩]

theorem esp_hex {s : ByteArray} {q : Nat} (h2 : escs.contains (byt s (q + 1)) = false) (h3 : q + 3 < s.size) (h4 : byt s (q + 1) = 120) (h5 : 0 ≤ hxi (byt s (q + 2))) (h6 : 0 ≤ hxi (byt s (q + 3))) :
    esp s q = .ok ((16 * hxi (byt s (q + 2)) + hxi (byt s (q + 3))).toNat, q + 4) ∧ hxi (byt s (q + 2)) < 16 ∧ hxi (byt s (q + 3)) < 16 := by
  have g5 := hxi_get h5
  have g6 := hxi_get h6
  refine ⟨?_, by omega, by omega⟩
  unfold esp
  rw [if_neg (fun e => by rw [h2] at e; cases e.2), if_pos ⟨h3, h4, (hxi_some _).1 h5, (hxi_some _).1 h6⟩]
  congr 2
  omega

theorem esp_no {s : ByteArray} {q : Nat} (h1 : ¬ (q + 1 < s.size ∧ escs.contains (byt s (q + 1)) = true)) (h2 : ¬ (q + 3 < s.size ∧ byt s (q + 1) = 120 ∧ 0 ≤ hxi (byt s (q + 2)) ∧ 0 ≤ hxi (byt s (q + 3)))) : esp s q = .error (q, 131) := by
  unfold esp
  rw [if_neg h1, if_neg (fun e => h2 ⟨e.1, e.2.1, (hxi_some _).2 e.2.2.1, (hxi_some _).2 e.2.2.2⟩)]

set_option maxRecDepth 100000 in
set_option maxHeartbeats 2000000 in
theorem escape_any (s : ByteArray) (q : Nat) (hs : s.size ≤ 1000000) (hq : q < s.size) (w : World) :
    Calls Tryz.prog 114 #[.string s, .int .i64 (q : Int)] w fun e w' => e = .returned (rdt (esp s q)) ∧ w' = w := by
  obtain ⟨B, hB⟩ : ∃ B, s.extract (q + 1) s.size = B := ⟨_, rfl⟩
  have hBs : (B.size : Int) = (s.size : Int) - (q : Int) - 1 := by rw [← hB, ByteArray.size_extract]; omega
  have hw1 : IntKind.i64.wrap ((q : Int) + 1) = (q : Int) + 1 := by rw [IntKind.wrap_i64]; omega
  have hw2 : IntKind.i64.wrap ((q : Int) + 2) = (q : Int) + 2 := by rw [IntKind.wrap_i64]; omega
  have hw4 : IntKind.i64.wrap ((q : Int) + 4) = (q : Int) + 4 := by rw [IntKind.wrap_i64]; omega
  have hn1 : ((q : Int) + 1).toNat = q + 1 := by omega
  have hb1 : (0 : Int) ≤ (q : Int) + 1 := by omega
  have hb2 : (q : Int) + 1 ≤ (s.size : Int) := by omega
  have hi : ∀ j, q + 1 + j < s.size → ∀ w, (Instr.index 9 (.string B) (.int .i64 (j : Int))).run Tryz.prog w = .ok (.int .u8 ((byt s (q + 1 + j) : Nat) : Int)) w := fun j hj w => by
    rw [idx_str B j (by omega) w, ← hB, byt_ext s (q + 1) j (by omega)]
  have l1 := byt_lt s (q + 1)
  have l2 := byt_lt s (q + 2)
  have l3 := byt_lt s (q + 3)
  by_cases g1 : q + 1 < s.size
  · have i0 : ∀ w, (Instr.index 9 (.string B) (.int .i64 0)).run Tryz.prog w = .ok (.int .u8 ((byt s (q + 1) : Nat) : Int)) w := hi 0 (by omega)
    have g1I : (1 : Int) ≤ (B.size : Int) := by omega
    have CE : Hid _ := fun (v : World) => fpos_any escT (byt s (q + 1)) v
    cases h2 : escs.contains (byt s (q + 1)) with
    | true =>
      have HF : Hid _ := esp_sign g1 h2
      have h2I : ¬ fpos escT (byt s (q + 1)) < 0 := fun e => by rw [(fpos_esc l1).1 e] at h2; cases h2
      clear hi h2
      unfold escT at CE h2I
      generalize fpos _ (byt s (q + 1)) = f at *
      generalize byt s (q + 1) = x at *
      have h2J : 0 ≤ f := by omega
      go_enter Tryz.func114, Tryz.ntmps114
      go_wp2_with (first | rw [hn1] | rw [hB])
      refine Calls.mono (CE.out _) ?_; rintro e w2 ⟨rfl, rfl⟩
      go_wp2_with fail
      refine bodyPost_ret (results_tmp3 rfl _ _ _) rfl ?_
      exact ⟨by rw [HF.out]; rfl, rfl⟩
    | false =>
      have h2I : fpos escT (byt s (q + 1)) < 0 := (fpos_esc l1).2 h2
      unfold escT at CE h2I
      by_cases g3 : q + 3 < s.size
      · have g3I : (3 : Int) ≤ (B.size : Int) := by omega
        have i1 : ∀ w, (Instr.index 9 (.string B) (.int .i64 1)).run Tryz.prog w = .ok (.int .u8 ((byt s (q + 2) : Nat) : Int)) w := hi 1 (by omega)
        have i2 : ∀ w, (Instr.index 9 (.string B) (.int .i64 2)).run Tryz.prog w = .ok (.int .u8 ((byt s (q + 3) : Nat) : Int)) w := hi 2 (by omega)
        by_cases h4 : byt s (q + 1) = 120
        · have CX : Hid _ := fun (v : World) => fpos_any hxT (byt s (q + 2)) v
          have CY : Hid _ := fun (v : World) => fpos_any hxT (byt s (q + 3)) v
          rw [fpos_hex l2] at CX
          rw [fpos_hex l3] at CY
          unfold hxT at CX CY
          by_cases h5 : 0 ≤ hxi (byt s (q + 2))
          · by_cases h6 : 0 ≤ hxi (byt s (q + 3))
            · obtain ⟨HF', b5, b6⟩ := esp_hex h2 g3 h4 h5 h6
              have HF : Hid _ := HF'
              clear HF' hi
              generalize fpos _ (byt s (q + 1)) = f at *
              generalize hxi (byt s (q + 2)) = u at *
              generalize hxi (byt s (q + 3)) = v at *
              rw [h4] at i0 CE
              generalize byt s (q + 1) = x at *
              generalize byt s (q + 2) = y at *
              generalize byt s (q + 3) = z at *
              have h2J : ¬ 0 ≤ f := by omega
              have e1 : IntKind.i64.wrap (16 * u) = 16 * u := by rw [IntKind.wrap_i64]; omega
              have e2 : IntKind.i64.wrap (16 * u + v) = 16 * u + v := by rw [IntKind.wrap_i64]; omega
              have e3 : IntKind.u8.wrap (16 * u + v) = 16 * u + v := by rw [IntKind.wrap_u8]; omega
              have e4 : (((16 * u + v).toNat : Nat) : Int) = 16 * u + v := by omega
              go_enter Tryz.func114, Tryz.ntmps114
              go_wp2_with (first | rw [hn1] | rw [hB])
              refine Calls.mono (CE.out _) ?_; rintro e w2 ⟨rfl, rfl⟩
              go_wp2_with fail
              refine Calls.mono (CX.out _) ?_; rintro e w2 ⟨rfl, rfl⟩
              go_wp2_with fail
              refine Calls.mono (CY.out _) ?_; rintro e w2 ⟨rfl, rfl⟩
              go_wp2_with fail
              refine bodyPost_ret (results_tmp3 rfl _ _ _) rfl ?_
              exact ⟨by rw [HF.out]; unfold rdt; simp only []; rw [e4]; rfl, rfl⟩
            · have HF : Hid _ := esp_no (s := s) (q := q) (fun e => by rw [h2] at e; cases e.2) (fun e => h6 e.2.2.2)
              clear hi
              generalize fpos _ (byt s (q + 1)) = f at *
              generalize hxi (byt s (q + 2)) = u at *
              generalize hxi (byt s (q + 3)) = v at *
              rw [h4] at i0 CE
              generalize byt s (q + 1) = x at *
              generalize byt s (q + 2) = y at *
              generalize byt s (q + 3) = z at *
              have h2J : ¬ 0 ≤ f := by omega
              go_enter Tryz.func114, Tryz.ntmps114
              go_wp2_with (first | rw [hn1] | rw [hB])
              refine Calls.mono (CE.out _) ?_; rintro e w2 ⟨rfl, rfl⟩
              go_wp2_with fail
              refine Calls.mono (CX.out _) ?_; rintro e w2 ⟨rfl, rfl⟩
              go_wp2_with fail
              refine Calls.mono (CY.out _) ?_; rintro e w2 ⟨rfl, rfl⟩
              go_wp2_with fail
              refine bodyPost_ret (results_tmp3 rfl _ _ _) rfl ?_
              exact ⟨by rw [HF.out]; rfl, rfl⟩
          · have HF : Hid _ := esp_no (s := s) (q := q) (fun e => by rw [h2] at e; cases e.2) (fun e => h5 e.2.2.1)
            clear hi
            generalize fpos _ (byt s (q + 1)) = f at *
            generalize hxi (byt s (q + 2)) = u at *
            generalize hxi (byt s (q + 3)) = v at *
            rw [h4] at i0 CE
            generalize byt s (q + 1) = x at *
            generalize byt s (q + 2) = y at *
            generalize byt s (q + 3) = z at *
            have h2J : ¬ 0 ≤ f := by omega
            go_enter Tryz.func114, Tryz.ntmps114
            go_wp2_with (first | rw [hn1] | rw [hB])
            refine Calls.mono (CE.out _) ?_; rintro e w2 ⟨rfl, rfl⟩
            go_wp2_with fail
            refine Calls.mono (CX.out _) ?_; rintro e w2 ⟨rfl, rfl⟩
            go_wp2_with fail
            refine Calls.mono (CY.out _) ?_; rintro e w2 ⟨rfl, rfl⟩
            go_wp2_with fail
            refine bodyPost_ret (results_tmp3 rfl _ _ _) rfl ?_
            exact ⟨by rw [HF.out]; rfl, rfl⟩
        · have HF : Hid _ := esp_no (s := s) (q := q) (fun e => by rw [h2] at e; cases e.2) (fun e => h4 e.2.1)
          have h4I : ¬ ((byt s (q + 1) : Nat) : Int) = 120 := by omega
          clear hi
          generalize fpos _ (byt s (q + 1)) = f at *
          generalize byt s (q + 1) = x at *
          have h2J : ¬ 0 ≤ f := by omega
          go_enter Tryz.func114, Tryz.ntmps114
          go_wp2_with (first | rw [hn1] | rw [hB])
          refine Calls.mono (CE.out _) ?_; rintro e w2 ⟨rfl, rfl⟩
          go_wp2_with fail
          refine bodyPost_ret (results_tmp3 rfl _ _ _) rfl ?_
          exact ⟨by rw [HF.out]; rfl, rfl⟩
      · have HF : Hid _ := esp_no (s := s) (q := q) (fun e => by rw [h2] at e; cases e.2) (fun e => g3 e.1)
        have g3I : ¬ (3 : Int) ≤ (B.size : Int) := by omega
        clear hi
        generalize fpos _ (byt s (q + 1)) = f at *
        generalize byt s (q + 1) = x at *
        have h2J : ¬ 0 ≤ f := by omega
        go_enter Tryz.func114, Tryz.ntmps114
        go_wp2_with (first | rw [hn1] | rw [hB])
        refine Calls.mono (CE.out _) ?_; rintro e w2 ⟨rfl, rfl⟩
        go_wp2_with fail
        refine bodyPost_ret (results_tmp3 rfl _ _ _) rfl ?_
        exact ⟨by rw [HF.out]; rfl, rfl⟩
  · have HF : Hid _ := esp_no (s := s) (q := q) (fun e => g1 e.1) (fun e => g1 (by omega))
    have g1I : ¬ (1 : Int) ≤ (B.size : Int) := by omega
    have g3I : ¬ (3 : Int) ≤ (B.size : Int) := by omega
    clear hi
    go_enter Tryz.func114, Tryz.ntmps114
    go_wp2_with (first | rw [hn1] | rw [hB])
    refine bodyPost_ret (results_tmp3 rfl _ _ _) rfl ?_
    exact ⟨by rw [HF.out]; rfl, rfl⟩

/-- A byte that is read, where some are apart. -/
def rby (A : List Nat) (wr : Nat) (s : ByteArray) (q : Nat) : Rd Nat :=
  if s.size ≤ q then .error (s.size, 133) else if byt s q = 92 then esp s q else if sgn (byt s q) = false ∨ A.contains (byt s q) = true then .error (q, wr) else .ok (byt s q, q + 1)

theorem rby_itm (s : ByteArray) (q : Nat) : rby aptC 132 s q = itm s q := by
  unfold rby itm
  by_cases h1 : s.size ≤ q
  · rw [if_pos h1, if_pos h1]
  · rw [if_neg h1, if_neg h1]
    by_cases h2 : byt s q = 92
    · rw [if_pos h2, if_pos h2]
    · rw [if_neg h2, if_neg h2]
      have e : aptC.contains (byt s q) = [34, 91, 93, 45, 94].contains (byt s q) := by
        rw [Bool.eq_iff_iff, List.contains_iff_mem, List.contains_iff_mem]
        simp [aptC, h2]
      rw [e]

set_option maxRecDepth 100000 in
set_option maxHeartbeats 2000000 in
theorem byte_any (T : ByteArray) (A : List Nat) (hA : ∀ b, b < 256 → ((fpos T b < 0) ↔ A.contains b = false)) (wr : Nat) (s : ByteArray) (q : Nat) (hs : s.size ≤ 1000000) (hq : q ≤ s.size) (w : World) :
    Calls Tryz.prog 93 #[.string s, .int .i64 (q : Int), .string T, .int .i64 (wr : Int)] w fun e w' => e = .returned (rdt (rby A wr s q)) ∧ w' = w := by
  by_cases h1 : q < s.size
  · have h1I : ¬ (q : Int) = (s.size : Int) := by omega
    have hi : ∀ w, (Instr.index 9 (.string s) (.int .i64 (q : Int))).run Tryz.prog w = .ok (.int .u8 ((byt s q : Nat) : Int)) w := fun w => idx_str s q h1 w
    have hw1 : IntKind.i64.wrap ((q : Int) + 1) = (q : Int) + 1 := by rw [IntKind.wrap_i64]; omega
    have l1 := byt_lt s q
    by_cases h2 : byt s q = 92
    · have HF : Hid (rby A wr s q = esp s q) := by show _ = _; unfold rby; rw [if_neg (by omega), if_pos h2]
      have CE : Hid _ := fun (v : World) => escape_any s q hs h1 v
      rw [h2] at hi
      cases hx : esp s q with
      | ok r =>
        obtain ⟨b, n⟩ := r
        rw [hx] at CE HF
        unfold rdt at CE
        go_enter Tryz.func93, Tryz.ntmps93
        go_wp2_with fail
        refine Calls.mono (CE.out _) ?_; rintro e w2 ⟨rfl, rfl⟩
        go_wp2_with fail
        refine bodyPost_ret (results_tmp3 rfl _ _ _) rfl ?_
        exact ⟨by rw [HF.out]; rfl, rfl⟩
      | error r =>
        obtain ⟨p, c⟩ := r
        rw [hx] at CE HF
        unfold rdt at CE
        go_enter Tryz.func93, Tryz.ntmps93
        go_wp2_with fail
        refine Calls.mono (CE.out _) ?_; rintro e w2 ⟨rfl, rfl⟩
        go_wp2_with fail
        refine bodyPost_ret (results_tmp3 rfl _ _ _) rfl ?_
        exact ⟨by rw [HF.out]; rfl, rfl⟩
    · have h2I : ¬ ((byt s q : Nat) : Int) = 92 := by omega
      have CB : Hid _ := fun (v : World) => bare_any T (A.contains (byt s q)) (byt s q) (hA _ l1) v
      cases hb : (sgn (byt s q) && !A.contains (byt s q)) with
      | true =>
        rw [hb] at CB
        have HF : Hid (rby A wr s q = .ok (byt s q, q + 1)) := by
          show _ = _
          rw [Bool.and_eq_true] at hb
          unfold rby
          rw [if_neg (by omega), if_neg h2, if_neg]
          rintro (e | e)
          · rw [e] at hb; cases hb.1
          · rw [e] at hb; cases hb.2
        clear hb
        generalize byt s q = x at *
        go_enter Tryz.func93, Tryz.ntmps93
        go_wp2_with fail
        refine Calls.mono (CB.out _) ?_; rintro e w2 ⟨rfl, rfl⟩
        go_wp2_with fail
        refine bodyPost_ret (results_tmp3 rfl _ _ _) rfl ?_
        exact ⟨by rw [HF.out]; rfl, rfl⟩
      | false =>
        rw [hb] at CB
        have HF : Hid (rby A wr s q = .error (q, wr)) := by
          show _ = _
          unfold rby
          rw [if_neg (by omega), if_neg h2, if_pos]
          cases e : sgn (byt s q) with
          | false => exact .inl rfl
          | true => rw [e, Bool.true_and, Bool.not_eq_false'] at hb; exact .inr hb
        clear hb
        generalize byt s q = x at *
        go_enter Tryz.func93, Tryz.ntmps93
        go_wp2_with fail
        refine Calls.mono (CB.out _) ?_; rintro e w2 ⟨rfl, rfl⟩
        go_wp2_with fail
        refine bodyPost_ret (results_tmp3 rfl _ _ _) rfl ?_
        exact ⟨by rw [HF.out]; rfl, rfl⟩
  · obtain rfl : q = s.size := by omega
    have HF : Hid (rby A wr s s.size = .error (s.size, 133)) := by show _ = _; unfold rby; rw [if_pos (Nat.le_refl _)]
    go_enter Tryz.func93, Tryz.ntmps93
    go_wp2_with fail
    refine bodyPost_ret (results_tmp3 rfl _ _ _) rfl ?_
    exact ⟨by rw [HF.out]; rfl, rfl⟩

end Cls
end Go.Proofs.YtbnnobeahliffaaGreatDoor
