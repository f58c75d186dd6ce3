/- The walk of 'beaglelaw09.ZedGreatest': it answers true; nothing that was there is turned. For the statement's proof. -/
import Derived.OpenShut
import Derived.ProofKit
import Derived.Test.YtgdjllfolfiboaaDoorZdLaw
import Derived.Test.YtgdjllfolfiboaaDoorLead
namespace Go.Proofs.YtgdjllfolfiboaaDoor.zedGreatest
open Go.ChangeShapes Go.WideShapes Go.ChangeAt Go.RowKit Cls
set_option linter.unusedVariables false

/-- The row's bytes are those from the beginning on. -/
theorem zr_ext {s : ByteArray} {i : Nat} (h : i ≤ s.size) : (s.extract 0 (zr s i)).toList == (s.extract i (i + zr s i)).toList := by
  have hz := zr_spec s i h
  have hl := hz.le
  refine (ba_eq _ _).2 ?_
  have h1 : (s.extract 0 (zr s i)).size = zr s i := by rw [ByteArray.size_extract]; omega
  have h2 : (s.extract i (i + zr s i)).size = zr s i := by rw [ByteArray.size_extract]; omega
  apply ByteArray.ext
  apply Array.ext
  · exact h1.trans h2.symm
  · intro j h3 h4
    have hj : j < zr s i := by rw [← h1]; exact h3
    have hs := hz.same j hj
    rw [byt_at s j (by omega), byt_at s (i + j) (by omega)] at hs
    have h5 : j < (s.extract 0 (zr s i)).size := h3
    have h6 : j < (s.extract i (i + zr s i)).size := h4
    have e : (s.extract 0 (zr s i))[j]'h5 = (s.extract i (i + zr s i))[j]'h6 := by
      rw [ByteArray.getElem_extract, ByteArray.getElem_extract]
      simp only [Nat.zero_add]
      exact UInt8.toNat_inj.1 hs
    exact e

set_option maxHeartbeats 4000000 in
theorem walk (s : ByteArray) (i : Int) (w : World) (hs : s.size ≤ maxLen) (hi : (Lit.int .i64 i).wf = true) (hT : TabB w) :
    Calls Tryd.prog 8 #[.string s, .int .i64 i] w fun e w' => e = .returned (.bool true) ∧ Below w.heap.size w w' := by
  have HT : Hid (Tw w w) := Tw.refl hT
  have CA : Hid _ := fun (v : World) (hv : TabB v) => alive09_any v hv
  unfold maxLen at hs
  obtain ⟨hi0, hi1⟩ := bounds_i64 hi
  clear hT hi
  by_cases hn : s.size ≤ 500 ∧ 0 ≤ i ∧ i < s.size
  · obtain ⟨hn1, hn2, hn3⟩ := hn
    obtain ⟨k, rfl⟩ : ∃ k : Nat, i = (k : Int) := ⟨i.toNat, by omega⟩
    have hnI : ¬ (500 : Int) < (s.size : Int) := by omega
    have hkI : ¬ (s.size : Int) ≤ (k : Int) := by omega
    have hkn : k < s.size := by omega
    have hk0 : ¬ (k : Int) < 0 := by omega
    have C3 : Hid _ := fun (v : World) => (rows_any s (by omega) v).mono (fun _ _ h => told_len (rwl_len s) h)
    have HEx : Hid _ := zr_ext (s := s) (i := k) (by omega)
    have hz := zr_spec s k (by omega)
    obtain ⟨z, hzz⟩ : ∃ z, zr s k = z := ⟨_, rfl⟩
    rw [hzz] at hz HEx
    have HZz : Hid (zr s k = z) := hzz
    have hle := hz.le
    have HSt : Hid _ := hz.stop
    clear hz hzz
    obtain ⟨q, hq⟩ : ∃ q, k + z = q := ⟨_, rfl⟩
    rw [hq] at HEx HSt hle
    have hqI : (k : Int) + (z : Int) = (q : Int) := by omega
    have hwq : IntKind.i64.wrap ((k : Int) + (z : Int)) = (q : Int) := by rw [hqI, IntKind.wrap_i64]; omega
    have hz0 : (0 : Int) ≤ (z : Int) := by omega
    have hqs : (q : Int) ≤ (s.size : Int) := by omega
    have hkq : (k : Int) ≤ (q : Int) := by omega
    have hzs : (z : Int) ≤ (s.size : Int) := by omega
    have hex := HEx.out
    clear HEx
    go_enter Tryd.func8, Tryd.ntmps8
    go_wp2_with fail
    refine Calls.mono (C3.out w) ?_; rintro e w3 ⟨⟨bo, d, rfl, hi⟩, b3⟩
    have T3 : Hid (Tw w w3) := Tw.grow HT.out b3
    obtain ⟨b, rfl, _, hc⟩ := hi (by rw [rwl_len]; omega)
    have hck := hc k (by rw [rwl_len]; exact hkn)
    rw [rwl_at, HZz.out] at hck
    clear b3 C3 hi hc HT
    by_cases hqe : q = s.size
    · clear HSt
      subst hqe
      go_wp2_with fail
      refine wp_region_lead (by kernel_rfl) (by kernel_rfl) (by kernel_rfl) (by kernel_rfl) (by rfl) ?_
      intro K' hK
      go_simp
      refine Calls.mono (CA.out _ T3.out.tab) ?_; rintro e v6 ⟨rfl, b6⟩
      have T6 : Hid (Tw w v6) := Tw.grow T3.out (undrew b6)
      clear b6 T3 CA
      refine hK _ _ ?_
      clear hK K'
      repeat (go_big_quiet_step (fail))
      refine wpQuiet_nil ?_
      intro _ hw'
      obtain ⟨nq, rfl⟩ := hw'
      go_wp2_with fail
      go_ret
      exact ⟨rfl, below_drewN T6.out.bel nq⟩
    · have hqs2 : q < s.size := by omega
      have hqsI : (q : Int) < (s.size : Int) := by omega
      have hqeI : ¬ (q : Int) = (s.size : Int) := by omega
      have hqeB : ((q : Int) == (s.size : Int)) = false := by simp; omega
      have hzs2 : z < s.size := by omega
      have hzsI : (z : Int) < (s.size : Int) := by omega
      have hne : byt s z ≠ byt s q := by
        rcases HSt.out with h | h
        · exact absurd h hqe
        · exact h
      have ix := idx_str s z hzs2
      have iz := idx_str s q hqs2
      have hb1 := byt_lt s z
      have hb2 := byt_lt s q
      have k3 : ¬ ((byt s z : Nat) : Int) = ((byt s q : Nat) : Int) := by omega
      have k4 : (((byt s z : Nat) : Int) == ((byt s q : Nat) : Int)) = false := by simpa using k3
      have k5 : (((byt s z : Nat) : Int) != ((byt s q : Nat) : Int)) = true := by simpa using k3
      clear HSt hne
      go_wp2_with fail
      refine wp_region_lead (by kernel_rfl) (by kernel_rfl) (by kernel_rfl) (by kernel_rfl) (by rfl) ?_
      intro K' hK
      go_simp
      refine Calls.mono (CA.out _ T3.out.tab) ?_; rintro e v6 ⟨rfl, b6⟩
      have T6 : Hid (Tw w v6) := Tw.grow T3.out (undrew b6)
      clear b6 T3 CA
      refine hK _ _ ?_
      clear hK K'
      repeat (go_big_quiet_step (fail))
      refine wpQuiet_nil ?_
      intro _ hw'
      obtain ⟨nq, rfl⟩ := hw'
      go_wp2_with fail
      go_ret
      exact ⟨rfl, below_drewN T6.out.bel nq⟩
  · have hb : (500 : Int) < (s.size : Int) ∨ (¬ (500 : Int) < (s.size : Int) ∧ i < 0) ∨ (¬ (500 : Int) < (s.size : Int) ∧ ¬ i < 0 ∧ (s.size : Int) ≤ i) := by omega
    clear hn
    rcases hb with hnI | ⟨hnI, hnJ⟩ | ⟨hnI, hnJ, hnK⟩
    all_goals
      go_enter Tryd.func8, Tryd.ntmps8
      go_wp2_with fail
      refine Calls.mono (CA.out w HT.out.tab) ?_; rintro e w1 ⟨rfl, b1⟩
      have T1 : Hid (Tw w w1) := Tw.grow HT.out b1
      clear b1 HT CA
      go_wp2_with fail
      go_ret
      exact ⟨rfl, T1.out.bel⟩

end Go.Proofs.YtgdjllfolfiboaaDoor.zedGreatest
