/- Contracts of the document's own answers of layer 2 (beagleref02): sums, Forward, Inverse. -/
import Derived.Test.YtcppcfbcgopmoaaDoorNttFwd
namespace Go.Proofs.YtcppcfbcgopmoaaDoor
open Go.RowKit Res


theorem ps_succ (k r : Int) (L : Nat → Int) (i j : Nat) : md k (md k (sm i fun t => L t * r ^ (t * j)) + md k (L i * md k (r ^ (i * j)))) = md k (sm (i + 1) fun t => L t * r ^ (t * j)) := by
  rw [md_mul_r, md_add]; rfl
theorem pf_succ (k r : Int) (i j : Nat) : md k (md k (r ^ (i * j)) * md k (r ^ j)) = md k (r ^ ((i + 1) * j)) := by
  rw [md_mul, ← Int.pow_add, Nat.add_mul, Nat.one_mul]
theorem st_succ (k r : Int) (j : Nat) : md k (md k (r ^ j) * r) = md k (r ^ (j + 1)) := by rw [md_mul_l, ← Int.pow_succ]
end Go.Proofs.YtcppcfbcgopmoaaDoor
