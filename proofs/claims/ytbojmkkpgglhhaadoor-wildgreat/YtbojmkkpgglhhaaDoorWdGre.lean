/- Texts of one byte, and their sums; two rows of bytes that are appended to in turn. -/
import Derived.Test.YtbojmkkpgglhhaaDoorWdLaw
import Derived.Test.YtbojmkkpgglhhaaDoorLfLaw
import Derived.Maps.AppendAt
import Derived.Laws.IdiomStrings
import Derived.Laws.BytesString
namespace Go.Proofs.YtbojmkkpgglhhaaDoor
open Go.RowKit Res
namespace Cls

/-- A text of m times the byte b. -/
def rb (b m : Nat) : ByteArray := ⟨(List.replicate m (UInt8.ofNat b)).toArray⟩

theorem rb_size (b m : Nat) : (rb b m).size = m := by show (List.replicate m (UInt8.ofNat b)).toArray.size = m; simp

theorem rb_byt (b m t : Nat) (hb : b < 256) (ht : t < m) : byt (rb b m) t = b := by
  have h : t < (rb b m).size := by rw [rb_size]; exact ht
  rw [byt_at _ t h]
  have : ∀ (s : ByteArray) (h1 : t < s.size), s = ⟨(List.replicate m (UInt8.ofNat b)).toArray⟩ → (s[t]'h1).toNat = b := by
    intro s h1 e
    subst e
    show ((List.replicate m (UInt8.ofNat b)).toArray[t]'_).toNat = b
    simp
    omega
  exact this _ h rfl

theorem rb_vl (b m t : Nat) (hb : b < 256) (ht : t < m) : vl (tx (rb b m) t) = b + 1 := by
  rw [vl_tx _ t (by rw [rb_size]; exact ht), rb_byt b m t hb ht]

/-- The sums of the greatest bytes. -/
theorem rb_ws (b c m M i : Nat) (hb : b < 256) (hc : c < 256) : ∀ k, k ≤ m → i + k ≤ M → ws (tx (rb b m)) (rb c M) i k = (k : Int) * (((b : Int) + 1) * (((b : Int) - c) * ((b : Int) - c)))
  | 0, _, _ => by rw [ws_zero]; simp
  | k + 1, hk, hM => by
    rw [ws_succ, rb_ws b c m M i hb hc k (by omega) (by omega), rb_vl b m k hb (by omega), rb_byt c M (i + k) hc (by omega)]
    unfold wt
    have e1 : (((b + 1 : Nat) : Int)) = (b : Int) + 1 := by omega
    have e2 : (b : Int) + 1 - ((c : Int) + 1) = (b : Int) - c := by omega
    rw [e1, e2]
    have e3 : (((k + 1 : Nat) : Int)) = (k : Int) + 1 := by omega
    rw [e3]
    generalize ((b : Int) + 1) * (((b : Int) - c) * ((b : Int) - c)) = X
    rw [Int.add_mul, Int.one_mul]

theorem rb_wok (b m : Nat) (h1 : 1 ≤ m) (h2 : m ≤ 64) : wok (tx (rb b m)) m 0 = true := by
  have hr : rgt (tx (rb b m)) m 0 = true := by
    have h := rgt_tx (rb b m) 0 (by rw [rb_size]; exact h1) (by rw [rb_size]; exact h2) (by omega) (by omega)
    rw [rb_size] at h
    exact h
  have hp : pln (tx (rb b m)) m = true := by
    have h := pln_tx (rb b m)
    rw [rb_size] at h
    exact h
  unfold wok
  rw [hr, hp]
  rfl

theorem rb_we (b m : Nat) (h1 : 1 ≤ m) (h2 : m ≤ 64) : we (tx (rb b m)) m 0 (2 * m) 128 = 0 ∧ wn (tx (rb b m)) m 0 (2 * m) 128 = m + 1 := by
  obtain ⟨e1, e2, _⟩ := we_ok (m := 2 * m) (z := 128) (rb_wok b m h1 h2) (Or.inr (szb_of (l := 7) (by omega) (by decide) (by omega)))
  exact ⟨e1, by rw [e2]; omega⟩

/-- A row of bytes that are all the same. -/
def bb (b : Nat) (i : Nat) : List Value := List.replicate i (.int .u8 (b : Int))

theorem bb_one (b i : Nat) : bb b i ++ [.int .u8 (b : Int)] = bb b (i + 1) := by unfold bb; rw [List.replicate_succ']

theorem bb_two (b i : Nat) : bb b i ++ [.int .u8 (b : Int), .int .u8 (b : Int)] = bb b (i + 2) := by
  rw [show i + 2 = (i + 1) + 1 from rfl, ← bb_one, ← bb_one, List.append_assoc]
  rfl

theorem cell_two_new (w : World) (x y : Value) (t : TypeId) : ∀ j u, [x, y][j]? = some u → (w.alloc (.cells #[x, y] t)).cell? ((⟨w.heap.size, 0, none⟩ : Addr).add j) = some u := by
  intro j u hj
  have hb : (w.alloc (.cells #[x, y] t)).heap[w.heap.size]? = some (.cells #[x, y] t) := World.alloc_heap_new w _
  rw [add_none]
  unfold World.cell?
  rw [hb]
  match j, hj with
  | 0, hj => simpa using hj
  | 1, hj => simpa using hj

/-- Two rows of bytes that are appended to in turn. -/
structure Pb (w wr : World) (va vb : Value) (i j b c : Nat) : Prop where
  oa : wr.ownsRow w.heap.size 5 1 va i (bb b i)
  ob : wr.ownsRow w.heap.size 5 1 vb j (bb c j)
  ap : ∀ g, va.ownBlock = some g → vb.ownBlock ≠ some g
  bel : Below w.heap.size w wr

theorem Pb.a {w wr wa : World} {va vb va' : Value} {i j b c : Nat} {ob : Obj} (h : Pb w wr va vb i j b c) (h1 : wa.ownsRow w.heap.size 5 1 va' (i + 1) (bb b i ++ [.int .u8 (b : Int)])) (hg : (wr.alloc ob).grownBy wa va.ownBlock) (hat : va'.ownBlock = va.ownBlock ∨ va'.ownBlock = some (wr.heap.size + 1)) :
    Pb w wa va' vb (i + 1) j b c := by
  refine ⟨by rw [← bb_one]; exact h1, ?_, ?_, grow_below h.bel.size h.bel h.oa hg⟩
  · refine World.ownsRow.kept (h.ob.alloc ob) hg ?_
    cases hv : vb.ownBlock with
    | none => exact Or.inl rfl
    | some g => exact Or.inr fun e => h.ap g e.symm hv
  · intro g hg1 hg2
    rcases hat with e | e
    · exact h.ap g (e ▸ hg1) hg2
    · have := ownsRow_at h.ob hg2
      rw [e] at hg1
      have : wr.heap.size + 1 = g := Option.some.inj hg1
      omega

theorem Pb.b {w wr wa : World} {va vb vb' : Value} {i j b c : Nat} {ob : Obj} (h : Pb w wr va vb i j b c) (h1 : wa.ownsRow w.heap.size 5 1 vb' (j + 2) (bb c j ++ [.int .u8 (c : Int), .int .u8 (c : Int)])) (hg : (wr.alloc ob).grownBy wa vb.ownBlock) (hat : vb'.ownBlock = vb.ownBlock ∨ vb'.ownBlock = some (wr.heap.size + 1)) :
    Pb w wa va vb' i (j + 2) b c := by
  refine ⟨?_, by rw [← bb_two]; exact h1, ?_, grow_below h.bel.size h.bel h.ob hg⟩
  · refine World.ownsRow.kept (h.oa.alloc ob) hg ?_
    cases hv : va.ownBlock with
    | none => exact Or.inl rfl
    | some g => exact Or.inr fun e => h.ap g hv e.symm
  · intro g hg1 hg2
    rcases hat with e | e
    · exact h.ap g hg1 (e ▸ hg2)
    · have := ownsRow_at h.oa hg1
      rw [e] at hg2
      have : wr.heap.size + 1 = g := Option.some.inj hg2
      omega

/-- What such a row is as a text. -/
theorem bb_text {w : World} {B m b : Nat} {v : Value} (h : w.ownsRow B 5 1 v m (bb b m)) (h1 : 1 ≤ m) (hb : b < 256) : (convert 46 9 v).run Tryd.prog w = .ok (.string (rb b m)) w := by
  have hcl := fun g hg => World.ownsRow.cells h (g := g) hg
  obtain ⟨hl, h | ⟨g, cap, cur, hv, _⟩⟩ := h
  · omega
  subst hv
  have h := run_convert_bytes_back (P := Tryd.prog) w 46 9 5 ⟨g, 0, none⟩ cap (List.replicate m (UInt8.ofNat b)) Tryd.underlying46 Tryd.underlying5 Tryd.underlying9 (fun j hj => by
    have hjm : j < m := by simpa using hj
    refine hcl g rfl j _ ?_
    unfold bb
    rw [List.getElem?_replicate, if_pos hjm]
    simp
    omega)
  rw [List.length_replicate] at h
  exact h

/-- The number that the law asks for, step by step. -/
theorem great_le {m b d : Int} (h0 : 1 ≤ m) (h1 : m ≤ 64) (h2 : 0 ≤ b) (h3 : b ≤ 255) (h4 : 0 ≤ d) (h5 : d ≤ 255) :
    0 ≤ m * (b + 1) ∧ m * (b + 1) ≤ 16384 ∧ 0 ≤ m * (b + 1) * d ∧ m * (b + 1) * d ≤ 4177920 ∧ 0 ≤ m * (b + 1) * d * d ∧ m * (b + 1) * d * d ≤ 1065369600 := by
  have a0 : 0 ≤ m * (b + 1) := Int.mul_nonneg (by omega) (by omega)
  have a1 : m * (b + 1) ≤ 64 * 256 := Int.mul_le_mul h1 (by omega) (by omega) (by omega)
  have a2 : 0 ≤ m * (b + 1) * d := Int.mul_nonneg a0 h4
  have a3 : m * (b + 1) * d ≤ 16384 * 255 := Int.mul_le_mul (by omega) h5 h4 (by omega)
  have a4 : 0 ≤ m * (b + 1) * d * d := Int.mul_nonneg a2 h4
  have a5 : m * (b + 1) * d * d ≤ 4177920 * 255 := Int.mul_le_mul (by omega) h5 h4 (by omega)
  omega

theorem great_eq {m b c d : Int} (h : d = b - c ∨ d = c - b) : m * ((b + 1) * ((b - c) * (b - c))) = m * (b + 1) * d * d := by
  have e : (b - c) * (b - c) = d * d := by
    rcases h with h | h
    · rw [h]
    · rw [h, ← Int.neg_mul_neg]
      congr 1 <;> omega
  rw [e, Int.mul_assoc (m * (b + 1)), Int.mul_assoc m]

end Cls
end Go.Proofs.YtbojmkkpgglhhaaDoor
