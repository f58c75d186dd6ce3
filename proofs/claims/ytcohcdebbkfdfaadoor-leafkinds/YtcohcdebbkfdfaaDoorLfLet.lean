/- Contracts of leaf.Letters, and of the document's Letters. -/
import Derived.Test.YtcohcdebbkfdfaaDoorLfWhere
import Derived.Test.YtcohcdebbkfdfaaDoorLfOwn
import Derived.Test.YtcohcdebbkfdfaaDoorLfRef
import Derived.Laws.IdiomStrings
import Derived.Laws.BytesString
namespace Go.Proofs.YtcohcdebbkfdfaaDoor
open Go.RowKit
namespace Cls

/-- The letters, as bytes. -/
def lts (P : Nat → Nat → Bool) (n : Nat) : List UInt8 := (List.range n).map fun t => UInt8.ofNat (bt (P t))

def ltx (P : Nat → Nat → Bool) (n : Nat) : ByteArray := if als P n = true then ⟨(lts P n).toArray⟩ else ⟨#[]⟩

theorem lts_len (P : Nat → Nat → Bool) (n : Nat) : (lts P n).length = n := by simp [lts]

theorem lts_succ (P : Nat → Nat → Bool) (n : Nat) : lts P (n + 1) = lts P n ++ [UInt8.ofNat (bt (P n))] := by simp [lts, List.range_succ]

theorem lts_at (P : Nat → Nat → Bool) (n j : Nat) (h : j < (lts P n).length) : ((lts P n)[j]).toNat = bt (P j) := by
  have := bt_lt (P j)
  simp [lts]
  omega

theorem als_yes {P : Nat → Nat → Bool} {n : Nat} (h : ∀ t, t < n → sg (P t) = true) : als P n = true := all_range h

theorem als_no {P : Nat → Nat → Bool} {n t : Nat} (ht : t < n) (h : sg (P t) = false) : als P n = false := all_range_no (q := fun t => sg (P t)) ht h

theorem ltx_yes {P : Nat → Nat → Bool} {n : Nat} (h : als P n = true) : ltx P n = ⟨(lts P n).toArray⟩ := if_pos h

theorem ltx_no {P : Nat → Nat → Bool} {n : Nat} (h : als P n = false) : ltx P n = ⟨#[]⟩ := if_neg (by rw [h]; simp)

/-- A row of bytes while it is being filled. -/
def bys (P : Nat → Nat → Bool) (k t : Nat) : Value := .int .u8 (if t < k then ((bt (P t) : Nat) : Int) else 0)

set_option maxHeartbeats 1000000 in
theorem letters_any (P : Nat → Nat → Bool) (n cap : Nat) (ao : Option Addr) (K : Int) (w : World) (hT : TabB w) (hl : Lf w ao n P) :
    Calls Tryd.prog 18 #[.agg #[.slice ao n cap, .int .i64 K]] w fun e w' => e = .returned (.tuple #[.string (ltx P n), .bool (als P n)]) ∧ Below w.heap.size w w' := by
  obtain ⟨w1, b1⟩ := lbox w (.slice ao n cap) (.int .i64 K)
  have hn := hl.small
  have hinf : (Tryd.prog.info? 5).map (fun i => (i.zero, i.size, i.bytes)) = some (some (.int .u8 0), 1, 1) := by kernel_rfl
  have hmk := fun w => run_make_row' (P := Tryd.prog) 49 5 (.int .u8 0) 1 Tryd.underlying49 hinf rfl .i64 .i64 n (by omega) (by omega) w
  have fv := fv_made w1 (.int .u8 0) n 5
  have wv := wv_made w1 (.int .u8 0) n 5
  have bel : Below w1.heap.size w1 (w1.alloc (.cells (madeCells #[.int .u8 0] n) 5)) := (Below.refl _ _).alloc (Nat.le_refl _) _
  have hsz : (w1.alloc (.cells (madeCells #[.int .u8 0] n) 5)).heap.size = w1.heap.size + 1 := by show (w1.heap.push _).size = _; simp
  generalize Obj.cells (madeCells #[.int .u8 0] n) 5 = ob at *
  obtain ⟨w2, e2⟩ : ∃ w2, w2 = w1.alloc ob := ⟨_, rfl⟩
  rw [← e2] at fv wv bel hsz
  have E1 : Hid _ := b1.eq
  have E2 : Hid _ := e2
  have s1 : w.heap.size < w1.heap.size := by have := b1.size; omega
  have s2 : w1.heap.size < w2.heap.size := by omega
  have B1 : Hid (Below w.heap.size w w1) := b1.bel
  have B12 : Hid (Below w1.heap.size w1 w2) := bel
  have HL : Hid (Lf w1 ao n P) := hl.grow b1.bel
  have HT : Hid (TabB w1) := hT.grow b1.bel
  have hc := b1.c0
  have hc2 := (two_below ⟨b1.c0, b1.c1⟩ bel s1).1
  have FV : Hid (Fv w2 w1.heap.size n (bys P 0)) := fv.congr (fun t _ => by unfold bys; simp)
  have WV : Hid (Wrt w2 w1.heap.size 0 n) := wv
  have HS : Hid (w.heap.size + 1 = w1.heap.size) := b1.size.symm
  clear b1 hl hT fv wv bel hsz e2 hinf
  go_enter Tryd.func18, Tryd.ntmps18
  go_wp2_with (first | rw [← E1.out] | rw [← E2.out])
  clear E1 E2 HS hc hc2 hmk
  go_loopw [16] (fun vk wr => Below w1.heap.size w1 wr ∧ w1.heap.size < wr.heap.size ∧ ∃ k : Nat, k ≤ n ∧ vk = .int .i64 k ∧ (∀ t, t < k → sg (P t) = true) ∧ Fv wr w1.heap.size n (bys P k) ∧ Wrt wr w1.heap.size 0 n) (fun vk _ => n - (intOf vk).toNat)
  case atStart => exact ⟨B12.out, s2, 0, Nat.zero_le _, rfl, fun t ht => by omega, FV.out, WV.out⟩
  case round =>
    obtain ⟨hbel, hsr, k, hk, rfl, hall, hF, hW⟩ := hrel
    have HB : Hid _ := hbel
    have HA : Hid _ := hall
    have HF : Hid _ := hF
    have HW : Hid _ := hW
    have HLr : Hid (Lf wr ao n P) := HL.out.grow hbel
    have HTr : Hid (TabB wr) := HT.out.grow hbel
    have B2 : Hid (Below w.heap.size w wr) := B1.out.trans (hbel.mono B1.out.size)
    clear hbel hall hF hW
    by_cases hkn : k < n
    · obtain ⟨b, o, rfl, hb, hC⟩ := HLr.out.lies (by omega)
      obtain ⟨c0, c1, c2, c3⟩ := hC.four hkn
      have hkI : (k : Int) < (n : Int) := by omega
      obtain ⟨w3, b3⟩ := box wr (P k)
      have E3 : Hid _ := b3.eq
      have HB3 : Hid (Below w1.heap.size w1 w3) := HB.out.trans (b3.bel.mono HB.out.size)
      have F3 : Hid (Fv w3 w1.heap.size n (bys P k)) := Fv.below HF.out b3.bel hsr
      have W3 : Hid (Wrt w3 w1.heap.size 0 n) := Wrt.below HW.out b3.bel hsr
      obtain ⟨a0, a1, a2, a3⟩ := c4 b3.fam
      have cc : Hid _ := single_sg (P k) w3 (HTr.out.grow b3.bel)
      have s3 : w1.heap.size < w3.heap.size := by have := b3.size; omega
      have hbt := bt_lt (P k)
      clear hC b3 HF HW
      cases hg : sg (P k) with
      | false =>
        rw [hg] at cc
        have HN : Hid _ := als_no hkn hg
        go_wp2_with (first | rw [← E3.out])
        refine Calls.mono (Hid.out cc) ?_; rintro e w4 ⟨rfl, b4⟩
        have HB4 : Hid (Below w1.heap.size w1 w4) := HB3.out.trans (b4.mono HB3.out.size)
        have B4 : Hid (Below w.heap.size w w4) := B1.out.trans (HB4.out.mono B1.out.size)
        clear b4
        go_wp2_with fail
        go_ret2
        exact ⟨by rw [ltx_no HN.out, HN.out]; rfl, B4.out⟩
      | true =>
        rw [hg] at cc
        have HS' : Hid (∀ t, t < k + 1 → sg (P t) = true) := fun t ht => by
          by_cases e : t = k
          · subst e; exact hg
          · exact HA.out t (by omega)
        go_wp2_with (first | rw [← E3.out])
        refine Calls.mono (Hid.out cc) ?_; rintro e w4 ⟨rfl, b4⟩
        have HB4 : Hid (Below w1.heap.size w1 w4) := HB3.out.trans (b4.mono HB3.out.size)
        have F4 : Hid (Fv w4 w1.heap.size n (bys P k)) := Fv.below F3.out b4 s3
        have W4 : Hid (Wrt w4 w1.heap.size 0 n) := Wrt.below W3.out b4 s3
        have s4 : w1.heap.size < w4.heap.size := Nat.lt_of_lt_of_le s3 b4.size
        have hck := F4.out k hkn
        have hfk := Wrt.zero W4.out k hkn
        have HB5 : Hid (Below w1.heap.size w1 (w4.setCell ⟨w1.heap.size, k, none⟩ (.int .u8 ((bt (P k) : Nat) : Int)))) := HB4.out.trans (((Wrote.refl (fun b' _ => b' = w1.heap.size) w4).setCell rfl _).below (fun b' o e => by omega))
        have F5 : Hid (Fv (w4.setCell ⟨w1.heap.size, k, none⟩ (.int .u8 ((bt (P k) : Nat) : Int))) w1.heap.size n (bys P (k + 1))) := (F4.out.set hkn _).congr (fun t _ => by
          unfold updV bys
          by_cases e : t = k
          · subst e; rw [if_pos rfl, if_pos (by omega)]
          · rw [if_neg e]
            by_cases e2 : t < k
            · rw [if_pos e2, if_pos (by omega)]
            · rw [if_neg e2, if_neg (by omega)])
        have W5 : Hid (Wrt (w4.setCell ⟨w1.heap.size, k, none⟩ (.int .u8 ((bt (P k) : Nat) : Int))) w1.heap.size 0 n) := Wrt.setCell W4.out _ _
        have s5 : w1.heap.size < (w4.setCell ⟨w1.heap.size, k, none⟩ (.int .u8 ((bt (P k) : Nat) : Int))).heap.size := by simpa [World.setCell] using s4
        have S5 : Hid _ := s5
        clear b4 a0 a1 a2 a3 s5 F4 W4
        unfold bys at hck
        go_wp2_with fail
        go_roundw
        case rel => exact ⟨HB5.out, S5.out, k + 1, by omega, by go_num, HS'.out, F5.out, W5.out⟩
        case measure => simp [intOf]; omega
    · obtain rfl : k = n := by omega
      have HN : Hid _ := als_yes HA.out
      have hcv : (convert 49 9 (.slice (some ⟨w1.heap.size, 0, none⟩) k k)).run Tryd.prog wr = .ok (.string ⟨(lts P k).toArray⟩) wr := by
        have h := run_convert_bytes_back (P := Tryd.prog) wr 49 9 5 ⟨w1.heap.size, 0, none⟩ k (lts P k) Tryd.underlying49 Tryd.underlying5 Tryd.underlying9 (fun j hj => by
          have hjk : j < k := by rw [lts_len] at hj; exact hj
          rw [lts_at, add_none, Nat.zero_add, HF.out j hjk]
          unfold bys
          rw [if_pos hjk])
        rw [lts_len] at h
        exact h
      go_wp2_with fail
      go_ret2
      exact ⟨by rw [ltx_yes HN.out, HN.out]; rfl, B2.out⟩

def lbs (P : Nat → Nat → Bool) (k : Nat) : List Value := (List.range k).map fun t => .int .u8 ((bt (P t) : Nat) : Int)

theorem lbs_succ (P : Nat → Nat → Bool) (k : Nat) : lbs P (k + 1) = lbs P k ++ [.int .u8 ((bt (P k) : Nat) : Int)] := by unfold lbs; rw [List.range_succ, List.map_append]; rfl

/-- A row of letters that is appended to. -/
def OwnL (w : World) (B : Nat) (v : Value) (k : Nat) (P : Nat → Nat → Bool) : Prop := w.ownsRow B 5 1 v k (lbs P k)

theorem infoL : ∃ i, Tryd.prog.info? 5 = some i ∧ i.zero = some (.int .u8 0) ∧ i.size = 1 ∧ i.bytes = 1 := by
  have h : (Tryd.prog.info? 5).map (fun i => (i.zero, i.size, i.bytes)) = some (some (.int .u8 0), 1, 1) := by kernel_rfl
  obtain ⟨i, hi, hz⟩ := Option.map_eq_some_iff.1 h
  simp only [Prod.mk.injEq] at hz
  exact ⟨i, hi, hz.1, hz.2.1, hz.2.2⟩

theorem ownL_text {w : World} {B k : Nat} {v : Value} {P : Nat → Nat → Bool} (h : OwnL w B v k P) : (convert 49 9 v).run Tryd.prog w = .ok (.string ⟨(lts P k).toArray⟩) w := by
  by_cases hk : 1 ≤ k
  · obtain ⟨g, cap, hv, _, _, _, hc, _⟩ := owns_cells h hk
    subst hv
    have h := run_convert_bytes_back (P := Tryd.prog) w 49 9 5 ⟨g, 0, none⟩ cap (lts P k) Tryd.underlying49 Tryd.underlying5 Tryd.underlying9 (fun j hj => by
      have hjk : j < k := by rw [lts_len] at hj; exact hj
      rw [lts_at, add_none, Nat.zero_add, hc j (by omega)]
      simp [lbs, hjk])
    rw [lts_len] at h
    exact h
  · obtain rfl : k = 0 := by omega
    obtain ⟨_, ⟨e, e2⟩ | ⟨g', cap, cur, hv, _⟩⟩ := h
    · rw [e]
      rw [run_convert_bytes_string w 49 9 5 none 0 0 Tryd.underlying49 Tryd.underlying5 Tryd.underlying9]
      rfl
    · rw [hv]
      exact run_convert_bytes_back (P := Tryd.prog) w 49 9 5 ⟨g', 0, none⟩ cap [] Tryd.underlying49 Tryd.underlying5 Tryd.underlying9 (fun j hj => by cases hj)

theorem refSingle_sg (f : Nat → Bool) (w : World) :
    Calls Tryd.prog 37 #[.agg #[.int .u64 ((wd (f) 0 : Nat) : Int), .int .u64 ((wd (f) 1 : Nat) : Int), .int .u64 ((wd (f) 2 : Nat) : Int), .int .u64 ((wd (f) 3 : Nat) : Int)]] w fun e w' => e = .returned (.tuple #[.int .u8 ((bt f : Nat) : Int), .bool (sg f)]) ∧ Below w.heap.size w w' := by
  refine (refSingle_any f w).mono ?_
  rintro e w' ⟨⟨b, t, hs, _, rfl⟩, hb⟩
  obtain ⟨rfl, rfl⟩ := sgl_eq hs
  exact ⟨rfl, hb⟩

set_option maxHeartbeats 1000000 in
theorem refLetters_any (P : Nat → Nat → Bool) (n cap : Nat) (ao : Option Addr) (K : Int) (w : World) (hl : Lf w ao n P) :
    Calls Tryd.prog 21 #[.agg #[.slice ao n cap, .int .i64 K]] w fun e w' => e = .returned (.tuple #[.string (ltx P n), .bool (als P n)]) ∧ Below w.heap.size w w' := by
  obtain ⟨w1, b1⟩ := lbox w (.slice ao n cap) (.int .i64 K)
  have E1 : Hid _ := b1.eq
  have B1 : Hid (Below w.heap.size w w1) := b1.bel
  have HC : Hid (w1.cell? ⟨w.heap.size, 0, none⟩ = some (.slice ao n cap) ∧ w1.cell? ⟨w.heap.size, 1, none⟩ = some (.int .i64 K)) := ⟨b1.c0, b1.c1⟩
  have s1 : w.heap.size < w1.heap.size := by have := b1.size; omega
  have HL : Hid (Lf w1 ao n P) := hl.grow b1.bel
  have hn := hl.small
  obtain ⟨i0, hi, hz0, hz1, hz2⟩ := infoL
  clear b1 hl
  go_enter Tryd.func21, Tryd.ntmps21
  go_wp2_with (first | rw [← E1.out])
  clear E1
  go_loopw [4, 5] (fun vo vk wr => Below w1.heap.size w1 wr ∧ ∃ k : Nat, k ≤ n ∧ vk = .int .i64 k ∧ (∀ t, t < k → sg (P t) = true) ∧ OwnL wr w1.heap.size vo k P) (fun _ vk _ => n - (intOf vk).toNat)
  case atStart => exact ⟨Below.refl _ _, 0, Nat.zero_le _, rfl, fun t ht => by omega, World.ownsRow_nil _ _ _ _⟩
  case round =>
    obtain ⟨hbel, k, hk, rfl, hall, hown⟩ := hrel
    have HB : Hid _ := hbel
    have HA : Hid _ := hall
    have HO : Hid _ := hown
    have HLr : Hid (Lf wr ao n P) := HL.out.grow hbel
    have hc := (two_below HC.out hbel s1).1
    clear hbel hall hown
    by_cases hkn : k < n
    · obtain ⟨b, o, rfl, hb, hC⟩ := HLr.out.lies (by omega)
      obtain ⟨c0, c1, c2, c3⟩ := hC.four hkn
      have hkI : (k : Int) < (n : Int) := by omega
      have cc : Hid _ := refSingle_sg (P k) wr
      have hbt := bt_lt (P k)
      clear hC
      cases hg : sg (P k) with
      | false =>
        rw [hg] at cc
        have HN : Hid _ := als_no hkn hg
        go_wp2_with fail
        refine Calls.mono (Hid.out cc) ?_; rintro e w4 ⟨rfl, b4⟩
        have HB4 : Hid (Below w1.heap.size w1 w4) := HB.out.trans (b4.mono HB.out.size)
        have B4 : Hid (Below w.heap.size w w4) := B1.out.trans (HB4.out.mono B1.out.size)
        clear b4
        go_wp2_with fail
        go_ret2
        exact ⟨by rw [ltx_no HN.out, HN.out]; rfl, B4.out⟩
      | true =>
        rw [hg] at cc
        have HS' : Hid (∀ t, t < k + 1 → sg (P t) = true) := fun t ht => by
          by_cases e : t = k
          · subst e; exact hg
          · exact HA.out t (by omega)
        go_wp2_with fail
        refine Calls.mono (Hid.out cc) ?_; rintro e w4 ⟨rfl, b4⟩
        have HB4 : Hid (Below w1.heap.size w1 w4) := HB.out.trans (b4.mono HB.out.size)
        have O4 : w4.ownsRow w1.heap.size 5 1 u4 k (lbs P k) := owns_below HO.out b4 (Nat.le_refl _)
        have hsz : w1.heap.size ≤ w4.heap.size := HB4.out.size
        clear b4 HO
        go_wp2_with (at_builtin; refine wpList_append_own _ rfl _ _ 49 rfl w1.heap.size 5 i0 (.int .u8 0) 1 1 Tryd.underlying49 hi hz0 hz1 hz2 rfl (by decide) _ _ _ rfl (O4.alloc _) ⟨w4.heap.size, 0, none⟩ 1 1 [.int .u8 ((bt (P k) : Nat) : Int)] rfl rfl ?c1 ?c2 ?c3 ?c4 ?c5 ?_)
        case c1 =>
          intro j' u hj'
          match j', hj' with
          | 0, hj' => simp at hj'; subst hj'; simp [Addr.add]
        case c2 => intro u hu; simp at hu; subst hu; rfl
        case c3 => unfold maxLen; omega
        case c4 => omega
        case c5 => simp; omega
        · intro v' w5 hown' hgrow _
          have HR : Hid (Below w1.heap.size w1 w5) := grow_below hsz HB4.out O4 hgrow
          have HO5 : Hid (OwnL w5 w1.heap.size v' (k + 1) P) := by show OwnL _ _ _ _ _; unfold OwnL; rw [lbs_succ]; exact hown'
          clear hown' hgrow O4 HB4
          go_wp2_with fail
          go_roundw
          case rel => exact ⟨HR.out, k + 1, by omega, by go_num, HS'.out, HO5.out⟩
          case measure => simp [intOf]; omega
    · obtain rfl : k = n := by omega
      have HN : Hid _ := als_yes HA.out
      have B2 : Hid (Below w.heap.size w wr) := B1.out.trans (HB.out.mono B1.out.size)
      have hcv := ownL_text HO.out
      clear HO
      go_wp2_with fail
      go_ret2
      exact ⟨by rw [ltx_yes HN.out, HN.out]; rfl, B2.out⟩

end Cls
end Go.Proofs.YtcohcdebbkfdfaaDoor
