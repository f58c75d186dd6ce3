/- Contracts of the document's own answers of layer 3 (beagleref03): Parts, quotient, Mixed, Join. -/
import Derived.Test.YtcppcfbcgopmoaaDoorResInv
import Derived.Test.YtcppcfbcgopmoaaDoorBox
import Derived.Test.YtcppcfbcgopmoaaDoorCrtNum
import Derived.Deep.QuietTactic
import Derived.BigQuiet
namespace Go.Proofs.YtcppcfbcgopmoaaDoor
open Go.RowKit Res

theorem inv1 : md 1 (998244353 ^ (pr 1 - 2).toNat) = 47450712 :=
  inv_unique (k := 1) (a := 998244353) (inv_right 1 998244353 (by decide) (by decide) (by decide)) (by decide) (md_nonneg _ _) (md_lt (by decide) _) (by decide) (by decide)
theorem inv2 : md 2 (339738624 ^ (pr 2 - 2).toNat) = 115990628 :=
  inv_unique (k := 2) (a := 339738624) (inv_right 2 339738624 (by decide) (by decide) (by decide)) (by decide) (md_nonneg _ _) (md_lt (by decide) _) (by decide) (by decide)

theorem d1_eq (x y : Int) : md 1 (md 1 (y - d0 x) * 47450712) = d1 x y := by
  rw [md1, md1]; unfold d1
  generalize d0 x = a
  omega
theorem d2_eq (x y z : Int) : md 2 (md 2 (z - md 2 (d0 x + md 2 (d1 x y * 998244353))) * 115990628) = d2 x y z := by
  rw [md2, md2, md2, md2]; unfold d2
  generalize d0 x = a
  generalize d1 x y = b
  omega
end Go.Proofs.YtcppcfbcgopmoaaDoor
