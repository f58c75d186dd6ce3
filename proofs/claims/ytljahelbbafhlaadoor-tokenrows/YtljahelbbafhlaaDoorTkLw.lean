/- What stands on the way of the laws of layer 13. -/
import Derived.Test.YtljahelbbafhlaaDoorTkAli
import Derived.Test.YtljahelbbafhlaaDoorTkHead
import Derived.Test.YtljahelbbafhlaaDoorTkMore
import Derived.Test.YtljahelbbafhlaaDoorTkRf5
import Derived.Test.YtljahelbbafhlaaDoorTkWr4
import Derived.Test.YtljahelbbafhlaaDoorTkPr3
import Derived.Deep.RegionHeld3
namespace Go.Proofs.YtljahelbbafhlaaDoor
open Go.RowKit
namespace Cls

/-- Both tables. -/
structure Tx (w v : World) : Prop where
  bel : Below w.heap.size w v
  tab : TabB v
  tx : TabX v

theorem Tx.grow {w v v' : World} (h : Tx w v) (hb : Below v.heap.size v v') : Tx w v' := ⟨h.bel.trans (hb.mono h.bel.size), h.tab.grow hb, h.tx.grow hb⟩

theorem Tx.refl {w : World} (h : TabB w) (h' : TabX w) : Tx w w := ⟨Below.refl _ _, h, h'⟩

theorem byt_cut (s : ByteArray) (n t : Nat) (hn : n ≤ s.size) (ht : t < n) : byt (s.extract 0 n) t = byt s t := by
  have hs : (s.extract 0 n).size = n := by rw [ByteArray.size_extract]; omega
  rw [byt_at _ _ (by omega), byt_at _ _ (by omega), ByteArray.getElem_extract]
  simp

/-- What a text's start says, whatever follows. -/
theorem agr_cut (s u : ByteArray) (n : Nat) (hn : n ≤ s.size) : Agr s (s.extract 0 n ++ u) n ∧ (s.extract 0 n ++ u).size = n + u.size := by
  have hs : (s.extract 0 n).size = n := by rw [ByteArray.size_extract]; omega
  have hz : (s.extract 0 n ++ u).size = n + u.size := by rw [ByteArray.size_append, hs]
  refine ⟨⟨hn, by omega, fun k hk => ?_⟩, hz⟩
  rw [byt_more _ _ _ (by omega), byt_cut s n k hn hk]

end Cls
end Go.Proofs.YtljahelbbafhlaaDoor
