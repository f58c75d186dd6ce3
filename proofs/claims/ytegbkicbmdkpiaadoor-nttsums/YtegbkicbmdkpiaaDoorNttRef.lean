/- Contracts of the document's own answers of layer 2 (beagleref02): sums, Forward, Inverse. -/
import Derived.Test.YtegbkicbmdkpiaaDoorNttFwd
namespace Go.Proofs.YtegbkicbmdkpiaaDoor
open Go.RowKit Res

/-- The cells of a row that was appended to, number by number. -/
def cellsOf (D : Nat → Int) (j : Nat) : List Value := (List.range j).map fun t => Value.int .u64 (D t)
def Own (w : World) (B : Nat) (v : Value) (j : Nat) (D : Nat → Int) : Prop := w.ownsRow B 32 1 v j (cellsOf D j)
theorem cellsOf_succ (D : Nat → Int) (j : Nat) : cellsOf D (j + 1) = cellsOf D j ++ [.int .u64 (D j)] := by
  unfold cellsOf; rw [List.range_succ, List.map_append]; rfl
theorem own_nil (w : World) (B : Nat) (D : Nat → Int) : Own w B (.slice none 0 0) 0 D := World.ownsRow_nil _ _ _ _
theorem own_fam {w : World} {B n : Nat} {v : Value} {D : Nat → Int} (h : Own w B v n D) (hn : 1 ≤ n) :
    ∃ g cap, v = .slice (some ⟨g, 0, none⟩) n cap ∧ B ≤ g ∧ g < w.heap.size ∧ Fam w g 0 n D ∧ Wrt w g 0 n := by
  obtain ⟨hl, h | ⟨g, cap, cur, hv, hg, hb, hc, hm, hs, ht⟩⟩ := h
  · omega
  refine ⟨g, cap, hv, hg, ?_, ?_, ?_⟩
  · rcases Nat.lt_or_ge g w.heap.size with h0 | h0
    · exact h0
    · rw [Array.getElem?_eq_none h0] at hb; cases hb
  · intro t htn
    unfold World.cell?
    rw [hb, Nat.zero_add]
    show cur[t]? = _
    have := congrArg (fun l : List Value => l[t]?) ht
    simp only [Nat.mul_one, List.getElem?_take, htn, if_true, Array.getElem?_toList] at this
    rw [this]
    simp [cellsOf, htn]
  · intro t _
    unfold World.frozen?
    rw [hb]
    simp
/-- Behind an append of one number. -/
theorem own_step {w wr w1 : World} {B j : Nat} {v v' : Value} {D : Nat → Int} {ob : Obj} {x : Int} (hx : x = D j) (hB : B ≤ wr.heap.size) (hb : Below B w wr) (hown : Own wr B v j D) (h1 : w1.ownsRow B 32 1 v' (j + 1) (cellsOf D j ++ [.int .u64 x])) (hg : (wr.alloc ob).grownBy w1 v.ownBlock) :
    Own w1 B v' (j + 1) D ∧ Below B w w1 := by
  refine ⟨by unfold Own; rw [cellsOf_succ, ← hx]; exact h1, ?_⟩
  refine (hb.alloc hB ob).grown hg ?_ ?_
  · show B ≤ (wr.heap.push _).size
    simp; omega
  · intro k hk
    obtain ⟨_, ⟨e, _⟩ | ⟨g, cap, cur, hv, hgB, _⟩⟩ := hown
    · subst e; simp [Value.ownBlock] at hk
    · subst hv; simp [Value.ownBlock] at hk; omega

theorem ps_succ (k r : Int) (L : Nat → Int) (i j : Nat) : md k (md k (sm i fun t => L t * r ^ (t * j)) + md k (L i * md k (r ^ (i * j)))) = md k (sm (i + 1) fun t => L t * r ^ (t * j)) := by
  rw [md_mul_r, md_add]; rfl
theorem pf_succ (k r : Int) (i j : Nat) : md k (md k (r ^ (i * j)) * md k (r ^ j)) = md k (r ^ ((i + 1) * j)) := by
  rw [md_mul, ← Int.pow_add, Nat.add_mul, Nat.one_mul]
theorem st_succ (k r : Int) (j : Nat) : md k (md k (r ^ j) * r) = md k (r ^ (j + 1)) := by rw [md_mul_l, ← Int.pow_succ]

set_option maxHeartbeats 1000000 in
theorem refSums_any (k : Int) (hp : pr k ≠ 0) (n : Nat) (hle : n ≤ 4096) (h1n : 1 ≤ n) (r : Int) (hr : 0 ≤ r) (lb lo lc : Nat) (L : Nat → Int) (hL : ∀ t, 0 ≤ L t) (w : World) (hl : Fam w lb lo n L) :
    Calls Tryd.prog 28 #[.int .i64 k, .slice (some ⟨lb, lo, none⟩) n lc, .int .u64 r] w fun e w' =>
      ∃ v, e = .returned v ∧ Own w' w.heap.size v n (dft k r n L) ∧ Below w.heap.size w w' := by
  obtain ⟨i0, hi, hz0, hz1, hz2⟩ := info_parts infoU
  have hlb : lb < w.heap.size := hl.lt (by omega)
  have hone := md_one hp
  have Hone : Hid (md k 1 = 1) := hone
  clear hone hp
  go_enter Tryd.func28, Tryd.ntmps28
  go_wp2_with fail
  go_loopw [7, 8, 9] (fun v s vj wr => ∃ j : Nat, j ≤ n ∧ vj = .int .i64 j ∧ s = .int .u64 (md k (r ^ j)) ∧ Own wr w.heap.size v j (dft k r n L) ∧ Below w.heap.size w wr) (fun _ _ vj _ => n - (intOf vj).toNat)
  case atStart => exact ⟨0, Nat.zero_le _, rfl, by rw [Int.pow_zero, Hone.out], own_nil _ _ _, Below.refl _ _⟩
  case round =>
    obtain ⟨j, hj, rfl, rfl, hown, hbel⟩ := hrel
    have Hown : Hid _ := hown
    have Hbel : Hid _ := hbel
    have hlr : Fam wr lb lo n L := hl.below hbel hlb
    have hsz : w.heap.size ≤ wr.heap.size := hbel.size
    clear hown hbel
    by_cases hlt : j < n
    · have hs0 := md_nonneg k (r ^ j)
      have hst : Hid (md k (md k (r ^ j) * r) = md k (r ^ (j + 1))) := st_succ k r j
      obtain ⟨ps, hps⟩ : ∃ ps : Nat → Int, ∀ i, ps i = md k (sm i fun t => L t * r ^ (t * j)) := ⟨_, fun _ => rfl⟩
      obtain ⟨pf, hpf⟩ : ∃ pf : Nat → Int, ∀ i, pf i = md k (r ^ (i * j)) := ⟨_, fun _ => rfl⟩
      have hps1 : Hid (∀ i, md k (ps i + md k (L i * pf i)) = ps (i + 1)) := fun i => by rw [hps, hps, hpf]; exact ps_succ k r L i j
      have hpf1 : Hid (∀ i, md k (pf i * md k (r ^ j)) = pf (i + 1)) := fun i => by rw [hpf, hpf]; exact pf_succ k r i j
      have hps0 : Hid (ps 0 = 0) := by show ps 0 = 0; rw [hps]; exact md_zero k
      have hpf0 : Hid (pf 0 = 1) := by show pf 0 = 1; rw [hpf, Nat.zero_mul, Int.pow_zero]; exact Hone.out
      have hpsn : Hid (ps n = dft k r n L j) := hps n
      have hpsb : ∀ i, 0 ≤ ps i := fun i => by rw [hps]; exact md_nonneg _ _
      have hpfb : ∀ i, 0 ≤ pf i := fun i => by rw [hpf]; exact md_nonneg _ _
      clear hps hpf
      generalize md k (r ^ j) = s at *
      go_wp2_with fail
      go_loopw [10, 11, 12] (fun vx vf vi wx => wx = wr ∧ ∃ i : Nat, i ≤ n ∧ vi = .int .i64 i ∧ vx = .int .u64 (ps i) ∧ vf = .int .u64 (pf i)) (fun _ _ vi _ => n - (intOf vi).toNat)
      case atStart => exact ⟨rfl, 0, Nat.zero_le _, rfl, by rw [hps0.out], by rw [hpf0.out]⟩
      case round =>
        obtain ⟨rfl, i, hile, rfl, rfl, rfl⟩ := hrel
        by_cases hlt2 : i < n
        · have hLi := hL i
          have hx0 := hpsb i
          have hf0 := hpfb i
          have hq0 := md_nonneg k (L i * pf i)
          unfold Fam at hlr
          clear Hown Hbel
          go_wp2_with fail
          refine Calls.mono (refMul_any k (L i) (pf i) _ hLi hf0) ?_; rintro e w' ⟨rfl, hw'⟩; subst w'
          go_wp2_with fail
          refine Calls.mono (refAdd_any k (ps i) (md k (L i * pf i)) _ hx0 hq0) ?_; rintro e w' ⟨rfl, hw'⟩; subst w'
          go_wp2_with fail
          refine Calls.mono (refMul_any k (pf i) s _ hf0 hs0) ?_; rintro e w' ⟨rfl, hw'⟩; subst w'
          go_wp2_with fail
          go_roundw
          case rel => exact ⟨trivial, i + 1, by omega, by go_num, by rw [hps1.out], by rw [hpf1.out]⟩
          case measure => simp [intOf]; omega
        · have hin : i = n := by omega
          subst hin
          have hown := Hown.out
          unfold Own at hown
          clear hlr
          go_wp2_with (at_builtin; refine wpList_append_own _ rfl _ _ 26 rfl w.heap.size 32 i0 (.int .u64 0) 1 8 Tryd.underlying26 hi hz0 hz1 hz2 rfl (by decide) _ _ _ rfl (hown.alloc _) ⟨wr.heap.size, 0, none⟩ 1 1 [.int .u64 (ps i)] rfl rfl ?c1 ?c2 ?c3 ?c4 ?c5 ?_)
          case c1 =>
            intro j' u hj'
            match j', hj' with
            | 0, hj' => simp at hj'; subst hj'; simp [Addr.add]
          case c2 => intro u hu; simp at hu; subst hu; rfl
          case c3 => unfold maxLen; omega
          case c4 => omega
          case c5 => simp; omega
          · intro v' w1 hown' hgrow _
            have R := own_step hpsn.out hsz Hbel.out Hown.out hown' hgrow
            have HR : Hid _ := R
            clear R hown' hgrow hown Hown Hbel
            go_wp2_with fail
            refine Calls.mono (refMul_any k s r _ hs0 hr) ?_; rintro e w' ⟨rfl, hw'⟩; subst w'
            go_wp2_with fail
            go_roundw
            case rel => exact ⟨j + 1, by omega, by go_num, by rw [hst.out], HR.out.1, HR.out.2⟩
            case measure => simp [intOf]; omega
    · have hjn : j = n := by omega
      subst hjn
      go_wp2_with fail
      go_ret
      exact ⟨_, rfl, Hown.out, Hbel.out⟩
end Go.Proofs.YtegbkicbmdkpiaaDoor
