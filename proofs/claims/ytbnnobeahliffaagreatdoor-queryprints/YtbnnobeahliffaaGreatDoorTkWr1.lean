/- Contracts of token.written and beagleref13.written: a byte's text. -/
import Derived.Test.YtbnnobeahliffaaGreatDoorTkWrt
import Derived.Test.YtbnnobeahliffaaGreatDoorTkRd1
import Derived.Laws.BytesArg
import Derived.Laws.Concat
set_option linter.unusedVariables false
namespace Go.Proofs.YtbnnobeahliffaaGreatDoor
open Go.RowKit
namespace Cls

theorem conv_bytes (L : List Nat) (hL : ∀ b ∈ L, b < 256) (cs : Array Value) (hcs : cs.toList = L.map fun (b : Nat) => Value.int .u8 (b : Int)) (v : World) (c : Nat) :
    (convert 135 9 (.slice (some ⟨v.heap.size, 0, none⟩) L.length c)).run Tryz.prog (v.alloc (.cells cs 5)) = .ok (.string (tbs L)) (v.alloc (.cells cs 5)) := by
  have hb : (v.alloc (.cells cs 5)).heap[v.heap.size]? = some (.cells cs 5) := World.alloc_heap_new v _
  have h := run_convert_bytes_arg (P := Tryz.prog) (v.alloc (.cells cs 5)) 135 5 Tryz.underlying135 Tryz.underlying5 v.heap.size 0 L.length c (L.map fun (b : Nat) => (b : Int)) (by simp) (fun i hi => by
    unfold World.cell?
    rw [hb, Nat.zero_add]
    show cs[i]? = _
    rw [← Array.getElem?_toList, hcs]
    simp [List.getD, hi]) 9 Tryz.underlying9
  have hs : strOfNums (L.map fun (b : Nat) => (b : Int)) = tbs L := by
    unfold strOfNums tbs
    rw [List.map_map]
    exact congrArg (fun l : List UInt8 => (⟨l.toArray⟩ : ByteArray)) (List.map_congr_left fun b _ => rfl)
  rw [h, hs]

/-- The text of one byte, of two, of four, made. -/
theorem conv_1 (b : Nat) (hb : b < 256) (v : World) : (convert 135 9 (.slice (some ⟨v.heap.size, 0, none⟩) 1 1)).run Tryz.prog (v.alloc (.cells #[.int .u8 (b : Int)] 5)) = .ok (.string (tbs [b])) (v.alloc (.cells #[.int .u8 (b : Int)] 5)) :=
  conv_bytes [b] (by simpa using hb) _ rfl v 1

theorem conv_2 (b : Nat) (hb : b < 256) (v : World) : (convert 135 9 (.slice (some ⟨v.heap.size, 0, none⟩) 2 2)).run Tryz.prog (v.alloc (.cells #[.int .u8 92, .int .u8 (b : Int)] 5)) = .ok (.string (tbs [92, b])) (v.alloc (.cells #[.int .u8 92, .int .u8 (b : Int)] 5)) :=
  conv_bytes [92, b] (by simpa using hb) _ rfl v 2

theorem conv_4 (x y : Nat) (hx : x < 256) (hy : y < 256) (v : World) : (convert 135 9 (.slice (some ⟨v.heap.size, 0, none⟩) 4 4)).run Tryz.prog (v.alloc (.cells #[.int .u8 92, .int .u8 120, .int .u8 (x : Int), .int .u8 (y : Int)] 5)) = .ok (.string (tbs [92, 120, x, y])) (v.alloc (.cells #[.int .u8 92, .int .u8 120, .int .u8 (x : Int), .int .u8 (y : Int)] 5)) :=
  conv_bytes [92, 120, x, y] (by simp [hx, hy]) _ rfl v 4

theorem hexd_lt {n : Nat} (h : n < 16) : hexd n < 256 := by unfold hexd; split <;> omega

theorem idx_strk (k : IntKind) (s : ByteArray) (q : Nat) (hq : q < s.size) (w : World) : (Instr.index 9 (.string s) (.int k (q : Int))).run Tryz.prog w = .ok (.int .u8 ((byt s q : Nat) : Int)) w := by
  rw [byt_at s q hq]
  have h := run_index_string (P := Tryz.prog) w 9 s k (q : Int) Tryz.underlying9
  rw [h]
  have h2 : (q : Int).toNat = q := by omega
  simp [hq]

theorem byt_hex : ∀ n, n < 16 → byt ⟨#[48, 49, 50, 51, 52, 53, 54, 55, 56, 57, 97, 98, 99, 100, 101, 102]⟩ n = hexd n := by decide

theorem idx_hex (n : Nat) (hn : n < 16) (w : World) : (Instr.index 9 (.string ⟨#[48, 49, 50, 51, 52, 53, 54, 55, 56, 57, 97, 98, 99, 100, 101, 102]⟩) (.int .u8 (n : Int))).run Tryz.prog w = .ok (.int .u8 ((hexd n : Nat) : Int)) w := by
  have h := idx_strk .u8 ⟨#[48, 49, 50, 51, 52, 53, 54, 55, 56, 57, 97, 98, 99, 100, 101, 102]⟩ n hn w
  rw [byt_hex n hn] at h
  exact h

theorem wrt_bare {b : Nat} {A : List Nat} (h : (sgn b && !A.contains b) = true) : wrt b A = [b] := by
  rw [Bool.and_eq_true] at h
  unfold wrt
  rw [if_neg (by rw [h.1]; decide), if_neg (by intro e; rw [e] at h; cases h.2)]

theorem wrt_sign {b : Nat} {A : List Nat} (h : (sgn b && !A.contains b) = false) (hs : sgn b = true) : wrt b A = [92, b] := by
  rw [hs, Bool.true_and, Bool.not_eq_false'] at h
  unfold wrt
  rw [if_neg (by rw [hs]; decide), if_pos h]

theorem wrt_hex {b : Nat} {A : List Nat} (hs : sgn b = false) : wrt b A = [92, 120, hexd (b / 16), hexd (b % 16)] := by
  unfold wrt
  rw [if_pos hs]

set_option maxRecDepth 100000 in
set_option maxHeartbeats 2000000 in
theorem written_any (T : ByteArray) (A : List Nat) (hA : ∀ b, b < 256 → ((fpos T b < 0) ↔ A.contains b = false)) (b : Nat) (hb : b < 256) (w : World) :
    Calls Tryz.prog 104 #[.int .u8 (b : Int), .string T] w fun e w' => e = .returned (.string (tbs (wrt b A))) ∧ Below w.heap.size w w' := by
  have CB : Hid _ := fun (v : World) => bare_any T (A.contains b) b (hA b hb) v
  have CS : Hid _ := fun (v : World) => sign_any b v
  cases hk : (sgn b && !A.contains b) with
  | true =>
    have HF : Hid _ := wrt_bare hk
    rw [hk] at CB
    obtain ⟨w5, e5⟩ : ∃ w5, w5 = w.alloc (.cells #[.int .u8 (b : Int)] 5) := ⟨_, rfl⟩
    have cv := conv_1 b hb w
    rw [← e5] at cv
    have BL : Hid (Below w.heap.size w w5) := by show Below _ _ _; rw [e5]; exact (Below.refl _ _).alloc (Nat.le_refl _) _
    have E5 : Hid _ := e5
    have CV : Hid _ := cv
    rw [HF.out]
    generalize tbs [b] = t at *
    clear cv e5 hk
    go_enter Tryz.func104, Tryz.ntmps104
    go_wp2_with fail
    refine Calls.mono (CB.out w) ?_; rintro e w2 ⟨rfl, hw2⟩; subst w2
    go_wp2_with (first | rw [← E5.out] | rw [CV.out])
    go_ret
    exact ⟨rfl, BL.out⟩
  | false =>
    cases hs : sgn b with
    | true =>
      have HF : Hid _ := wrt_sign hk hs
      rw [hk] at CB
      rw [hs] at CS
      obtain ⟨w5, e5⟩ : ∃ w5, w5 = w.alloc (.cells #[.int .u8 92, .int .u8 (b : Int)] 5) := ⟨_, rfl⟩
      have cv := conv_2 b hb w
      rw [← e5] at cv
      have BL : Hid (Below w.heap.size w w5) := by show Below _ _ _; rw [e5]; exact (Below.refl _ _).alloc (Nat.le_refl _) _
      have E5 : Hid _ := e5
      have CV : Hid _ := cv
      rw [HF.out]
      generalize tbs [92, b] = t at *
      clear cv e5 hk hs
      go_enter Tryz.func104, Tryz.ntmps104
      go_wp2_with fail
      refine Calls.mono (CB.out w) ?_; rintro e w2 ⟨rfl, hw2⟩; subst w2
      go_wp2_with fail
      refine Calls.mono (CS.out w) ?_; rintro e w2 ⟨rfl, hw2⟩; subst w2
      go_wp2_with (first | rw [← E5.out] | rw [CV.out])
      go_ret
      exact ⟨rfl, BL.out⟩
    | false =>
      have HF : Hid _ := wrt_hex (A := A) hs
      rw [hk] at CB
      rw [hs] at CS
      have i1 : ∀ w, (Instr.index 9 (.string ⟨#[48, 49, 50, 51, 52, 53, 54, 55, 56, 57, 97, 98, 99, 100, 101, 102]⟩) (.int .u8 ((b / 16 : Nat) : Int))).run Tryz.prog w = .ok (.int .u8 ((hexd (b / 16) : Nat) : Int)) w := fun w => idx_hex (b / 16) (by omega) w
      have i2 : ∀ w, (Instr.index 9 (.string ⟨#[48, 49, 50, 51, 52, 53, 54, 55, 56, 57, 97, 98, 99, 100, 101, 102]⟩) (.int .u8 ((b % 16 : Nat) : Int))).run Tryz.prog w = .ok (.int .u8 ((hexd (b % 16) : Nat) : Int)) w := fun w => idx_hex (b % 16) (by omega) w
      have l1 := hexd_lt (show b / 16 < 16 by omega)
      have l2 := hexd_lt (show b % 16 < 16 by omega)
      have hq : (b : Int).tdiv 16 = ((b / 16 : Nat) : Int) := rfl
      have hr : (b : Int).tmod 16 = ((b % 16 : Nat) : Int) := rfl
      have CV1 := conv_4 (hexd (b / 16)) (hexd (b % 16)) l1 l2 w.drew
      have CV2 : (convert 135 9 (.slice (some ⟨w.heap.size, 0, none⟩) 4 4)).run Tryz.prog (w.alloc (.cells #[.int .u8 92, .int .u8 120, .int .u8 ((hexd (b / 16) : Nat) : Int), .int .u8 ((hexd (b % 16) : Nat) : Int)] 5)).drew = .ok (.string (tbs [92, 120, hexd (b / 16), hexd (b % 16)])) (w.alloc (.cells #[.int .u8 92, .int .u8 120, .int .u8 ((hexd (b / 16) : Nat) : Int), .int .u8 ((hexd (b % 16) : Nat) : Int)] 5)).drew := CV1
      have BL : Hid _ := fun (v : World) (hv : Below w.heap.size w v) (o : Obj) => hv.alloc hv.size o
      rw [HF.out]
      generalize tbs [92, 120, hexd (b / 16), hexd (b % 16)] = t at *
      generalize hexd (b / 16) = x at *
      generalize hexd (b % 16) = y at *
      obtain ⟨b1, hb1⟩ : ∃ b1, b / 16 = b1 := ⟨_, rfl⟩
      obtain ⟨b2, hb2⟩ : ∃ b2, b % 16 = b2 := ⟨_, rfl⟩
      rw [hb1] at hq i1
      rw [hb2] at hr i2
      have m1 : b1 < 16 := by omega
      have m2 : b2 < 16 := by omega
      have u1 : IntKind.u8.wrap (b1 : Int) = (b1 : Int) := by rw [IntKind.wrap_u8]; omega
      have u2 : IntKind.u8.wrap (b2 : Int) = (b2 : Int) := by rw [IntKind.wrap_u8]; omega
      clear hb1 hb2 hk hs
      go_enter Tryz.func104, Tryz.ntmps104
      go_wp2_with fail
      refine Calls.mono (CB.out w) ?_; rintro e w2 ⟨rfl, hw2⟩; subst w2
      go_wp2_with fail
      refine Calls.mono (CS.out w) ?_; rintro e w2 ⟨rfl, hw2⟩; subst w2
      go_wp2_with fail
      go_region
      all_goals
        go_wp2_with fail
        go_ret
        exact ⟨rfl, by first | exact BL.out _ (Below.refl _ _) _ | exact (BL.out _ (Below.refl _ _) _).drew | exact BL.out _ (Below.refl _ _).drew _⟩

/-- Is a text's byte apart? -/
theorem isin_any {T : ByteArray} {A : List Nat} (hA : ∀ b, isin T b = A.contains b) (hT : T.size ≤ 1000000) (b : Nat) (w : World) :
    Calls Tryz.prog 109 #[.string T, .int .u8 (b : Int)] w fun e w' => e = .returned (.bool (A.contains b)) ∧ Below w.heap.size w w' := by
  have h := in13_any T b hT w
  rw [hA] at h
  exact h

set_option maxRecDepth 100000 in
set_option maxHeartbeats 2000000 in
theorem written13_any (T : ByteArray) (A : List Nat) (hA : ∀ b, isin T b = A.contains b) (hT : T.size ≤ 1000000) (b : Nat) (hb : b < 256) (w : World) :
    Calls Tryz.prog 88 #[.int .u8 (b : Int), .string T] w fun e w' => e = .returned (.string (tbs (wrt b A))) ∧ Below w.heap.size w w' := by
  have CS : Hid _ := fun (v : World) => sign13_any b v
  have CI : Hid _ := fun (v : World) => isin_any hA hT b v
  cases hs : sgn b with
  | false =>
    rw [wrt_hex (A := A) hs]
    exact written13_hex b hb T hs w
  | true =>
    rw [hs] at CS
    cases hc : A.contains b with
    | true =>
      have HF : Hid _ := wrt_sign (b := b) (A := A) (by rw [hc, hs]; rfl) hs
      rw [hc] at CI
      have CV : Hid _ := fun (v : World) => conv_1 b hb v
      have hadd : ∀ w, (Op.stringOp .add (⟨#[92]⟩ : ByteArray) (tbs [b])).run Tryz.prog w = .ok (.string (tbs [92, b])) w := fun w => by rw [run_string_add_sum (P := Tryz.prog) (w := w) _ (tbs [b]) (by rw [tbs_size]; show 1 + 1 ≤ 9223372036854775807; omega)]; rfl
      rw [HF.out]
      generalize tbs [b] = t at *
      generalize tbs [92, b] = t2 at *
      clear hs hc
      go_enter Tryz.func88, Tryz.ntmps88
      go_wp2_with fail
      refine Calls.mono (CS.out w) ?_; rintro e w2 ⟨rfl, b2⟩
      go_wp2_with fail
      refine Calls.mono (CI.out w2) ?_; rintro e w3 ⟨rfl, b3⟩
      have B3 : Below w.heap.size w w3 := b2.trans (b3.mono b2.size)
      obtain ⟨w5, e5⟩ : ∃ w5, w5 = w3.alloc (.cells #[.int .u8 (b : Int)] 5) := ⟨_, rfl⟩
      have cv := CV.out w3
      rw [← e5] at cv
      have BL : Hid (Below w.heap.size w w5) := by show Below _ _ _; rw [e5]; exact B3.alloc B3.size _
      have E5 : Hid _ := e5
      have CW : Hid _ := cv
      clear cv e5 b2 b3 B3 CV
      go_wp2_with (first | rw [← E5.out] | rw [CW.out])
      go_ret
      exact ⟨rfl, BL.out⟩
    | false =>
      have HF : Hid _ := wrt_bare (b := b) (A := A) (by rw [hc, hs]; rfl)
      rw [hc] at CI
      have CV : Hid _ := fun (v : World) => conv_1 b hb v
      rw [HF.out]
      generalize tbs [b] = t at *
      clear hs hc
      go_enter Tryz.func88, Tryz.ntmps88
      go_wp2_with fail
      refine Calls.mono (CS.out w) ?_; rintro e w2 ⟨rfl, b2⟩
      go_wp2_with fail
      refine Calls.mono (CI.out w2) ?_; rintro e w3 ⟨rfl, b3⟩
      have B3 : Below w.heap.size w w3 := b2.trans (b3.mono b2.size)
      obtain ⟨w5, e5⟩ : ∃ w5, w5 = w3.alloc (.cells #[.int .u8 (b : Int)] 5) := ⟨_, rfl⟩
      have cv := CV.out w3
      rw [← e5] at cv
      have BL : Hid (Below w.heap.size w w5) := by show Below _ _ _; rw [e5]; exact B3.alloc B3.size _
      have E5 : Hid _ := e5
      have CW : Hid _ := cv
      clear cv e5 b2 b3 B3 CV
      go_wp2_with (first | rw [← E5.out] | rw [CW.out])
      go_ret
      exact ⟨rfl, BL.out⟩

end Cls
end Go.Proofs.YtbnnobeahliffaaGreatDoor
