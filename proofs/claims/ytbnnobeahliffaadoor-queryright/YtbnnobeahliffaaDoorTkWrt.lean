/- Contracts of beagleref13.digit and written: what is written of a byte. -/
import Derived.Test.YtbnnobeahliffaaDoorTkA
import Derived.Test.YtbnnobeahliffaaDoorLfAl
import Derived.Laws.Concat
import Derived.Laws.BytesArg
set_option linter.unusedVariables false
namespace Go.Proofs.YtbnnobeahliffaaDoor
open Go.RowKit
namespace Cls

/-- Bytes as a text. -/
def tbs (L : List Nat) : ByteArray := ⟨(L.map fun n => n.toUInt8).toArray⟩

theorem tbs_size (L : List Nat) : (tbs L).size = L.length := by simp [tbs, ByteArray.size]

theorem tbs_app (L M : List Nat) : tbs (L ++ M) = tbs L ++ tbs M := by
  apply ByteArray.ext
  simp [tbs, ByteArray.data_append]

def hexT : ByteArray := ⟨#[48, 49, 50, 51, 52, 53, 54, 55, 56, 57, 97, 98, 99, 100, 101, 102]⟩

theorem hexT_cut : ∀ n, n < 16 → hexT.extract n (n + 1) = tbs [hexd n] := by decide

theorem tbs_hex (b : Nat) : (⟨#[92, 120]⟩ : ByteArray) ++ tbs [hexd (b / 16)] ++ tbs [hexd (b % 16)] = tbs [92, 120, hexd (b / 16), hexd (b % 16)] := by
  rw [show (⟨#[92, 120]⟩ : ByteArray) = tbs [92, 120] by decide, ← tbs_app, ← tbs_app]
  rfl

end Cls
end Go.Proofs.YtbnnobeahliffaaDoor
