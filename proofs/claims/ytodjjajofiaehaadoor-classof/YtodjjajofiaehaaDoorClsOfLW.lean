/- The walk of 'beaglelaw06.ClassOf': it answers true; nothing that was there is turned. For the statement's proof. -/
import Derived.OpenShut
import Derived.ProofKit
import Derived.Test.YtodjjajofiaehaaDoorClsAlive
import Derived.Deep.RegionHeld3
namespace Go.Proofs.YtodjjajofiaehaaDoor.classOf
open Go.ChangeShapes Go.WideShapes Go.ChangeAt Go.RowKit Cls
set_option linter.unusedVariables false

/-- The box of two bytes, on the way. -/
def Kz (w wk : World) (a b : Nat) : Prop := Below w.heap.size w wk ∧ wk.cell? ⟨w.heap.size, 0, none⟩ = some (.int .u8 (a : Int)) ∧ wk.cell? ⟨w.heap.size, 1, none⟩ = some (.int .u8 (b : Int))
theorem Kz.grow {w wk w' : World} {a b : Nat} (t : Kz w wk a b) (h : Below wk.heap.size wk w') : Kz w w' a b := by
  have hg : w.heap.size < wk.heap.size := World.block_lt_of_cell? wk _ t.2.1
  exact ⟨t.1.trans (h.mono t.1.size), (h.cell (p := ⟨w.heap.size, 0, none⟩) hg).trans t.2.1, (h.cell (p := ⟨w.heap.size, 1, none⟩) hg).trans t.2.2⟩
theorem boxz (w : World) (a b : Nat) : ∃ v, v = w.alloc (.cells #[.int .u8 (a : Int), .int .u8 (b : Int)] 22) ∧ Below w.heap.size w v ∧ Kz w v a b := by
  have hb : (w.alloc (.cells #[.int .u8 (a : Int), .int .u8 (b : Int)] 22)).heap[w.heap.size]? = some (.cells #[.int .u8 (a : Int), .int .u8 (b : Int)] 22) := by show (w.heap.push _)[w.heap.size]? = _; simp
  have hbel : Below w.heap.size w (w.alloc (.cells #[.int .u8 (a : Int), .int .u8 (b : Int)] 22)) := (Below.refl _ _).alloc (Nat.le_refl _) _
  refine ⟨_, rfl, hbel, hbel, ?_, ?_⟩
  · unfold World.cell?; rw [hb]; rfl
  · unfold World.cell?; rw [hb]; rfl
set_option maxHeartbeats 4000000 in
theorem walk (s : ByteArray) (a b : Nat) (w : World) (hs : s.size ≤ maxLen) (ha : a < 256) (hb : b < 256) (hT : TabB w) :
    Calls Tryd.prog 3 #[.string s, .agg #[.int .u8 (a : Int), .int .u8 (b : Int)]] w fun e w' => e = .returned (.bool true) ∧ Below w.heap.size w w' := by
  have hs' : s.size < 9223372036854775808 := by unfold maxLen at hs; omega
  obtain ⟨w1, e1, b1, k1⟩ := boxz w a b
  have E1 : Hid _ := e1
  have T1 : TabB w1 := hT.grow b1
  have TT : Hid (Kz w w1 a b) := k1
  have CA : Hid _ := fun (v : World) (hv : TabB v) => alive_any v hv
  have CO : Hid _ := fun (v : World) => of_any s hs' v
  have CP : Hid _ := fun (v : World) => refOf_any s hs' v
  have CR : Hid _ := fun (v : World) => range_any a b ha hb v
  have CS : Hid _ := fun (v : World) => refRange_any a b ha hb v
  have CF : Hid _ := fun (v : World) => full_any v
  have CG : Hid _ := fun (v : World) => refFull_any v
  have q1 : sm (inS s s.size) (inS s s.size) = true := sm_true (fun _ _ => rfl)
  have q2 : sm (rg a (b + 1)) (rg a (b + 1)) = true := sm_true (fun _ _ => rfl)
  have q3 : sm (fun _ => true) (rg 0 256) = true := sm_true (fun x hx => by unfold rg; rw [decide_eq_true (Nat.zero_le x), decide_eq_true hx]; rfl)
  clear hT e1 b1 k1 hs
  obtain ⟨_, a0, a1⟩ := TT.out
  by_cases hl : s.size ≤ 1000
  · have hlI : ¬ (1000 : Int) < (s.size : Int) := by omega
    go_enter Tryd.func3, Tryd.ntmps3
    go_wp2_with fail
    rw [← E1.out]
    clear E1
    go_region_held3 (fun w' => w'.cell? ⟨w.heap.size, 0, none⟩ = some (.int .u8 (a : Int)) ∧ w'.cell? ⟨w.heap.size, 1, none⟩ = some (.int .u8 (b : Int))) (go_keep)
    (first
      | (go_at_call 9; (refine Calls.mono (CA.out _ T1) ?_); rintro e vk ⟨rfl, bb⟩; have TB : Hid (Kz w vk a b) := Kz.grow TT.out (by first | exact undrew bb | exact bb); clear bb TT a0 a1; have TT : Hid (Kz w vk a b) := TB.out; clear TB; obtain ⟨_, a0, a1⟩ := TT.out)
      | (go_at_call 10; (with_reducible refine Calls.mono (CO.out _) ?_); rintro e vk ⟨rfl, bb⟩; have TB : Hid (Kz w vk a b) := Kz.grow TT.out (by first | exact undrew bb | exact bb); clear bb TT a0 a1; have TT : Hid (Kz w vk a b) := TB.out; clear TB; obtain ⟨_, a0, a1⟩ := TT.out)
      | (go_at_call 11; (with_reducible refine Calls.mono (CP.out _) ?_); rintro e vk ⟨rfl, bb⟩; have TB : Hid (Kz w vk a b) := Kz.grow TT.out (by first | exact undrew bb | exact bb); clear bb TT a0 a1; have TT : Hid (Kz w vk a b) := TB.out; clear TB; obtain ⟨_, a0, a1⟩ := TT.out)
      | (go_at_call 12; (with_reducible refine Calls.mono (CR.out _) ?_); rintro e vk ⟨rfl, bb⟩; have TB : Hid (Kz w vk a b) := Kz.grow TT.out (by first | exact undrew bb | exact bb); clear bb TT a0 a1; have TT : Hid (Kz w vk a b) := TB.out; clear TB; obtain ⟨_, a0, a1⟩ := TT.out)
      | (go_at_call 13; (with_reducible refine Calls.mono (CS.out _) ?_); rintro e vk ⟨rfl, bb⟩; have TB : Hid (Kz w vk a b) := Kz.grow TT.out (by first | exact undrew bb | exact bb); clear bb TT a0 a1; have TT : Hid (Kz w vk a b) := TB.out; clear TB; obtain ⟨_, a0, a1⟩ := TT.out)
      | (go_at_call 14; (with_reducible refine Calls.mono (CF.out _) ?_); rintro e vk ⟨rfl, bb⟩; have TB : Hid (Kz w vk a b) := Kz.grow TT.out (by first | exact undrew bb | exact bb); clear bb TT a0 a1; have TT : Hid (Kz w vk a b) := TB.out; clear TB; obtain ⟨_, a0, a1⟩ := TT.out)
      | (go_at_call 15; (with_reducible refine Calls.mono (CG.out _) ?_); rintro e vk ⟨rfl, bb⟩; have TB : Hid (Kz w vk a b) := Kz.grow TT.out (by first | exact undrew bb | exact bb); clear bb TT a0 a1; have TT : Hid (Kz w vk a b) := TB.out; clear TB; obtain ⟨_, a0, a1⟩ := TT.out))
    go_wp2_with fail
    go_ret
    exact ⟨rfl, TT.out.1⟩
  · have hlI : (1000 : Int) < (s.size : Int) := by omega
    have c1 : Hid _ := CA.out w1 T1
    go_enter Tryd.func3, Tryd.ntmps3
    go_wp2_with fail
    rw [← E1.out]
    clear E1
    refine Calls.mono (Hid.out c1) ?_; rintro e w2 ⟨rfl, b2⟩
    have B2 : Hid (Below w.heap.size w w2) := TT.out.1.trans (b2.mono TT.out.1.size)
    clear b2
    go_wp2_with fail
    go_ret
    exact ⟨rfl, B2.out⟩

end Go.Proofs.YtodjjajofiaehaaDoor.classOf
