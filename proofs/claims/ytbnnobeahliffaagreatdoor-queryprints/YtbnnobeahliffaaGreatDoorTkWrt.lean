/- Contracts of beagleref13.digit and written: what is written of a byte. -/
import Derived.Test.YtbnnobeahliffaaGreatDoorTkA
import Derived.Test.YtbnnobeahliffaaGreatDoorLfAl
import Derived.Laws.Concat
import Derived.Laws.BytesArg
set_option linter.unusedVariables false
namespace Go.Proofs.YtbnnobeahliffaaGreatDoor
open Go.RowKit
namespace Cls

/-- Bytes as a text. -/
def tbs (L : List Nat) : ByteArray := ⟨(L.map fun n => n.toUInt8).toArray⟩

theorem tbs_size (L : List Nat) : (tbs L).size = L.length := by simp [tbs, ByteArray.size]

theorem tbs_app (L M : List Nat) : tbs (L ++ M) = tbs L ++ tbs M := by
  apply ByteArray.ext
  simp [tbs, ByteArray.data_append]

def hexT : ByteArray := ⟨#[48, 49, 50, 51, 52, 53, 54, 55, 56, 57, 97, 98, 99, 100, 101, 102]⟩

theorem hexT_cut : ∀ n, n < 16 → hexT.extract n (n + 1) = tbs [hexd n] := by decide

set_option maxHeartbeats 1000000 in
theorem digit13_any (n : Nat) (hn : n < 16) (w : World) :
    Calls Tryz.prog 76 #[.int .i64 (n : Int)] w fun e w' => e = .returned (.string (tbs [hexd n])) ∧ Below w.heap.size w w' := by
  have HC : Hid _ := hexT_cut n hn
  have hw : IntKind.i64.wrap ((n : Int) + 1) = (n : Int) + 1 := by rw [IntKind.wrap_i64]; omega
  have h1 : (0 : Int) ≤ (n : Int) := by omega
  have h2 : (n : Int) + 1 ≤ 16 := by omega
  unfold hexT at HC
  go_enter Tryz.func76, Tryz.ntmps76
  go_wp2_with fail
  go_ret
  exact ⟨by rw [← HC.out]; rfl, Below.refl _ _⟩

theorem tbs_hex (b : Nat) : (⟨#[92, 120]⟩ : ByteArray) ++ tbs [hexd (b / 16)] ++ tbs [hexd (b % 16)] = tbs [92, 120, hexd (b / 16), hexd (b % 16)] := by
  rw [show (⟨#[92, 120]⟩ : ByteArray) = tbs [92, 120] by decide, ← tbs_app, ← tbs_app]
  rfl

set_option maxHeartbeats 1000000 in
theorem written13_hex (b : Nat) (hb : b < 256) (ap : ByteArray) (hs : sgn b = false) (w : World) :
    Calls Tryz.prog 88 #[.int .u8 (b : Int), .string ap] w fun e w' => e = .returned (.string (tbs [92, 120, hexd (b / 16), hexd (b % 16)])) ∧ Below w.heap.size w w' := by
  have CS : Hid _ := fun (v : World) => sign13_any b v
  rw [hs] at CS
  have CD : Hid _ := fun (v : World) => digit13_any (b / 16) (by omega) v
  have CE : Hid _ := fun (v : World) => digit13_any (b % 16) (by omega) v
  have ec : IntKind.i64.wrap (b : Int) = (b : Int) := by rw [IntKind.wrap_i64]; omega
  have HF : Hid _ := tbs_hex b
  obtain ⟨t1, ht1⟩ : ∃ t1, tbs [hexd (b / 16)] = t1 := ⟨_, rfl⟩
  obtain ⟨t2, ht2⟩ : ∃ t2, tbs [hexd (b % 16)] = t2 := ⟨_, rfl⟩
  have l1 : t1.size = 1 := by rw [← ht1, tbs_size]; rfl
  have l2 : t2.size = 1 := by rw [← ht2, tbs_size]; rfl
  rw [ht1] at CD HF
  rw [ht2] at CE HF
  generalize tbs [92, 120, hexd (b / 16), hexd (b % 16)] = R at *
  obtain ⟨t3, ht3⟩ : ∃ t3, (⟨#[92, 120]⟩ : ByteArray) ++ t1 = t3 := ⟨_, rfl⟩
  have l3 : t3.size = 3 := by rw [← ht3, ByteArray.size_append, l1]; rfl
  rw [ht3] at HF
  have hadd : ∀ w, (Op.stringOp .add (⟨#[92, 120]⟩ : ByteArray) t1).run Tryz.prog w = .ok (.string t3) w := fun w => by rw [run_string_add_sum (P := Tryz.prog) (w := w) _ t1 (by rw [l1]; decide), ht3]
  have hadd2 : ∀ w, (Op.stringOp .add t3 t2).run Tryz.prog w = .ok (.string R) w := fun w => by rw [run_string_add_sum (P := Tryz.prog) (w := w) t3 t2 (by rw [l3, l2]; decide), HF.out]
  have hq : (b : Int).tdiv 16 = ((b / 16 : Nat) : Int) := rfl
  have hr : (b : Int).tmod 16 = ((b % 16 : Nat) : Int) := rfl
  clear ht1 ht2 ht3 hs
  go_enter Tryz.func88, Tryz.ntmps88
  go_wp2_with fail
  refine Calls.mono (CS.out w) ?_; rintro e w2 ⟨rfl, b2⟩
  have B2 : Hid (Below w.heap.size w w2) := b2
  clear b2
  go_wp2_with fail
  refine Calls.mono (CD.out w2) ?_; rintro e w3 ⟨rfl, b3⟩
  have B3 : Hid (Below w.heap.size w w3) := B2.out.trans (b3.mono B2.out.size)
  clear b3
  go_wp2_with fail
  refine Calls.mono (CE.out w3) ?_; rintro e w4 ⟨rfl, b4⟩
  have B4 : Hid (Below w.heap.size w w4) := B3.out.trans (b4.mono B3.out.size)
  clear b4
  go_wp2_with fail
  go_ret
  exact ⟨rfl, B4.out⟩

end Cls
end Go.Proofs.YtbnnobeahliffaaGreatDoor
