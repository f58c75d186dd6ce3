/- Contract of zed.Rows. -/
import Derived.Test.YtgdjllfolfiboaaDoorZdSeer
import Derived.Test.YtgdjllfolfiboaaDoorNvA
namespace Go.Proofs.YtgdjllfolfiboaaDoor
open Go.RowKit
namespace Cls

/-- The rows of a text. -/
def rwl (s : ByteArray) : List Nat := (List.range s.size).map (zr s)

theorem rwl_len (s : ByteArray) : (rwl s).length = s.size := by simp [rwl]

theorem rwl_at (s : ByteArray) (i : Nat) (h : i < (rwl s).length) : (rwl s)[i] = zr s i := by simp [rwl]

/-- A row while it is being filled. -/
def rwf (s : ByteArray) (k t : Nat) : Value := .int .i64 (if t < k then ((zr s t : Nat) : Int) else 0)

/-- What stands between the rounds. -/
structure Rw (w wr : World) (b be br bs bp bt : Nat) (s : ByteArray) (k : Nat) : Prop where
  bel : Below w.heap.size w wr
  fv : Fv wr b s.size (rwf s k)
  wv : Wrt wr b 0 s.size
  eye : ∃ st en, Eye wr be br bs bp bt s s (.slice (some ⟨b, 0, none⟩) s.size s.size) st en ∧ st ≤ k ∧ (en = 0 ∨ 1 ≤ st)

theorem Rw.put {w wr : World} {b be br bs bp bt k : Nat} {s : ByteArray} (h : Rw w wr b be br bs bp bt s k) (hb : w.heap.size ≤ b) (hk : k < s.size) (hd : b ≠ be ∧ b ≠ br ∧ b ≠ bs ∧ b ≠ bp ∧ b ≠ bt) {x : Int} (hx : x = ((zr s k : Nat) : Int)) : Rw w (wr.setCell ⟨b, k, none⟩ (.int .i64 x)) b be br bs bp bt s (k + 1) := by
  have hw : Wrote (fun b' _ => b' = b) wr (wr.setCell ⟨b, k, none⟩ (.int .i64 x)) := (Wrote.refl (fun b' _ => b' = b) wr).setCell rfl _
  refine ⟨h.bel.trans (hw.below (fun b' o e => by omega)), (h.fv.set hk _).congr (fun t _ => ?_), h.wv.setCell _ _, ?_⟩
  · unfold updV rwf
    by_cases e : t = k
    · subst e; rw [if_pos rfl, if_pos (by omega), hx]
    · rw [if_neg e]
      by_cases e2 : t < k
      · rw [if_pos e2, if_pos (by omega)]
      · rw [if_neg e2, if_neg (by omega)]
  · obtain ⟨st, en, hy, h1, h2⟩ := h.eye
    exact ⟨st, en, hy.wrote hw (fun b' o e => by subst e; exact hd), by omega, h2⟩

theorem Rw.told {w wr : World} {b be br bs bp bt : Nat} {s : ByteArray} (h : Rw w wr b be br bs bp bt s s.size) (hb : w.heap.size ≤ b) : Told w (rwl s) (.returned (.slice (some ⟨b, 0, none⟩) s.size s.size)) wr := by
  refine ⟨⟨some ⟨b, 0, none⟩, s.size, by rw [rwl_len], fun hn => ⟨b, rfl, ?_, fun t ht => ?_⟩, fun _ => ⟨b, rfl, hb⟩, by rw [rwl_len]; omega⟩, h.bel⟩
  · rw [rwl_len] at hn
    exact h.fv.lt (by omega)
  · rw [rwl_at]
    rw [rwl_len] at ht
    have := h.fv t ht
    unfold rwf at this
    rw [if_pos ht] at this
    exact this

set_option maxHeartbeats 2000000 in
theorem rows_any (s : ByteArray) (hs : s.size ≤ 1000000) (w : World) :
    Calls Tryd.prog 11 #[.string s] w (Told w (rwl s)) := by
  have hinf : (Tryd.prog.info? 3).map (fun i => (i.zero, i.size, i.bytes)) = some (some (.int .i64 0), 1, 8) := by kernel_rfl
  have hmk := fun w => run_make_row' (P := Tryd.prog) 24 3 (.int .i64 0) 8 Tryd.underlying24 hinf rfl .i64 .i64 s.size (by omega) (by omega) w
  have fv := fv_made w (.int .i64 0) s.size 3
  have wv := wv_made w (.int .i64 0) s.size 3
  have bel : Below w.heap.size w (w.alloc (.cells (madeCells #[.int .i64 0] s.size) 3)) := (Below.refl _ _).alloc (Nat.le_refl _) _
  have hsz : (w.alloc (.cells (madeCells #[.int .i64 0] s.size) 3)).heap.size = w.heap.size + 1 := by show (w.heap.push _).size = _; simp
  generalize Obj.cells (madeCells #[.int .i64 0] s.size) 3 = ob at *
  obtain ⟨w1, e1⟩ : ∃ w1, w1 = w.alloc ob := ⟨_, rfl⟩
  rw [← e1] at fv wv bel hsz
  have E1 : Hid _ := e1
  have B1 : Hid (Below w.heap.size w w1) := bel
  have S1 : Hid (w1.heap.size = w.heap.size + 1) := hsz
  have FV : Hid (Fv w1 w.heap.size s.size (rwf s 0)) := fv.congr (fun t _ => by unfold rwf; simp)
  have WV : Hid (Wrt w1 w.heap.size 0 s.size) := wv
  have CS : Hid _ := seer_any s s (some ⟨w.heap.size, 0, none⟩) s.size s.size w1
  clear fv wv bel hsz e1 hinf
  go_enter Tryd.func11, Tryd.ntmps11
  go_wp2_with (first | rw [← E1.out])
  refine Calls.mono (Hid.out CS) ?_; rintro e w2 ⟨be, br, bs, bp, bt, rfl, hE, hlt, b2⟩
  have hlt' : w.heap.size ≠ be ∧ w.heap.size ≠ br ∧ w.heap.size ≠ bs ∧ w.heap.size ≠ bp ∧ w.heap.size ≠ bt := by have := S1.out; omega
  have HD : Hid _ := hlt'
  have HL : Hid (w.heap.size ≤ be ∧ w.heap.size ≤ bs) := by have h1 := S1.out; exact ⟨by omega, by omega⟩
  have HR0 : Hid (Rw w w2 w.heap.size be br bs bp bt s 0) := ⟨B1.out.trans (b2.mono B1.out.size), FV.out.below b2 (by have := S1.out; omega), WV.out.below b2 (by have := S1.out; omega), 0, 0, hE, Nat.le_refl _, Or.inl rfl⟩
  clear hE hlt b2 CS E1 B1 S1 FV WV hmk hlt'
  go_wp2_with fail
  go_loopw [15] (fun vk wr => ∃ k : Nat, k ≤ s.size ∧ vk = .int .i64 k ∧ Rw w wr w.heap.size be br bs bp bt s k) (fun vk _ => s.size - (intOf vk).toNat)
  case atStart => exact ⟨0, Nat.zero_le _, rfl, HR0.out⟩
  case round =>
    obtain ⟨k, hk, rfl, hR⟩ := hrel
    have HR : Hid _ := hR
    clear hR HR0
    by_cases hkn : k < s.size
    · have hkI : (k : Int) < (s.size : Int) := by omega
      by_cases hk0 : k = 0
      · subst hk0
        have hcv := HR.out.fv 0 hkn
        unfold rwf at hcv
        have hfv := HR.out.wv.zero 0 hkn
        have HP : Hid _ := HR.out.put (Nat.le_refl _) hkn HD.out (x := (s.size : Int)) (by rw [zr_zero])
        go_wp2_with fail
        go_roundw
        case rel => exact ⟨1, by omega, by go_num, HP.out⟩
        case measure => simp [intOf]; omega
      · obtain ⟨st, en, hy, h1, h2⟩ := HR.out.eye
        have CC : Hid _ := see_any s s hs hs k st en s.size s.size w.heap.size be br bs bp bt wr (by omega) h1 hy (Nat.le_refl _) hs (fun hen => by
          have := HR.out.fv (k - st) (by omega)
          unfold rwf at this
          rw [if_pos (by omega)] at this
          exact this)
        have hk0I : ¬ (k : Int) = 0 := by omega
        have hk0B : ((k : Int) == 0) = false := by simpa using hk0
        have H12 : Hid (st ≤ k ∧ (en = 0 ∨ 1 ≤ st)) := ⟨h1, h2⟩
        clear hy h1 h2
        go_wp2_with fail
        refine Calls.mono (Hid.out CC) ?_; rintro e w3 ⟨m, st', en', hz, rfl, hy, hst, hw3⟩
        have hm := hz.zr
        have h12 := H12.out
        have HR3 : Hid (Rw w w3 w.heap.size be br bs bp bt s k) := ⟨HR.out.bel.trans (hw3.below (fun b o e => by
          have := HL.out
          rcases e with e | e <;> omega)), HR.out.fv.wrote hw3 (fun t _ e => by
          have := HD.out
          rcases e with e | e <;> omega), hw3.wrt HR.out.wv, st', en', hy, by omega, by omega⟩
        have hcv := HR3.out.fv k hkn
        unfold rwf at hcv
        have hfv := HR3.out.wv.zero k hkn
        have HP : Hid _ := HR3.out.put (Nat.le_refl _) hkn HD.out (x := (m : Int)) (by rw [hm])
        have hml := hz.le
        clear hz hy hst hw3 hm CC h12
        go_wp2_with fail
        go_roundw
        case rel => exact ⟨k + 1, by omega, by go_num, HP.out⟩
        case measure => simp [intOf]; omega
    · obtain rfl : k = s.size := by omega
      have HT : Hid _ := HR.out.told (Nat.le_refl _)
      go_wp2_with fail
      go_ret
      exact HT.out

end Cls
end Go.Proofs.YtgdjllfolfiboaaDoor
