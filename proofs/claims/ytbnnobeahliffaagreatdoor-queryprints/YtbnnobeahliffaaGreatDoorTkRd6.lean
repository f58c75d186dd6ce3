/- Contract of token's readElements. (Written by mktk6.py.) -/
import Derived.Test.YtbnnobeahliffaaGreatDoorTkRd4
import Derived.Test.YtbnnobeahliffaaGreatDoorTkRow
set_option linter.unusedVariables false
namespace Go.Proofs.YtbnnobeahliffaaGreatDoor
open Go.RowKit
namespace Cls

/-- Where reading ends, or errs; the error; what is read. -/
def rpl {α : Type} : Rd α → Nat
  | .ok (_, n) => n
  | .error (p, _) => p

def rcd {α : Type} : Rd α → Nat
  | .ok _ => 0
  | .error (_, c) => c

def rls {α : Type} : Rd (List α) → List α
  | .ok (l, _) => l
  | .error _ => []

theorem elm_code0 {s : ByteArray} {q p c : Nat} (h : elm s q = .error (p, c)) : c ≠ 0 := by
  unfold elm at h
  split at h
  · cases h
  split at h
  · exact clr_code0 h
  split at h
  · split at h
    · rename_i e1
      simp only [Except.error.injEq] at h
      subst h
      have := esp_code e1
      omega
    · cases h
  split at h
  · simp only [Except.error.injEq, Prod.mk.injEq] at h; omega
  · cases h
 where
  cli_code0 {s : ByteArray} : ∀ (fuel q : Nat) (out : Nat → Bool) (items p c : Nat), s.size + 1 ≤ fuel + q → q ≤ s.size → cli s fuel q out items = .error (p, c) → c ≠ 0
    | 0, q, _, _, p, c, hf, hq, h => by omega
    | fuel + 1, q, out, items, p, c, hf, hq, h => by
      rw [cli_rit] at h
      split at h
      · cases h
      · split at h
        · rename_i e1
          simp only [Except.error.injEq] at h
          subst h
          exact rit_code0 e1
        · rename_i f n e1
          obtain ⟨n1, n2, _⟩ := rit_next e1
          exact cli_code0 fuel n _ _ p c (by omega) n2 h
  clr_code0 {s : ByteArray} {q p c : Nat} (h : clr s q = .error (p, c)) : c ≠ 0 := by
    by_cases hq : q < s.size
    · unfold clr at h
      cases e1 : cli s (s.size + 1) (if q + 1 < s.size ∧ byt s (q + 1) = 94 then q + 2 else q + 1) (fun _ => false) 0 with
      | error e =>
        rw [e1] at h
        simp only [Except.error.injEq] at h
        subst h
        exact cli_code0 _ _ _ _ _ _ (by split <;> omega) (by split <;> omega) e1
      | ok x =>
        obtain ⟨⟨out, items⟩, at1⟩ := x
        rw [e1] at h
        simp only at h
        by_cases hc : items = 0 ∨ cb (if q + 1 < s.size ∧ byt s (q + 1) = 94 then fun x => !out x else out) 0 256 = 0
        · rw [if_pos hc] at h
          simp only [Except.error.injEq, Prod.mk.injEq] at h
          omega
        · rw [if_neg hc] at h; cases h
    · unfold clr at h
      have hn : ¬ (q + 1 < s.size ∧ byt s (q + 1) = 94) := fun e => by omega
      simp only [if_neg hn] at h
      have e2 : cli s (s.size + 1) (q + 1) (fun _ => false) 0 = .error (s.size, 133) := by
        rw [cli_rit, if_neg (fun e => by omega)]
        unfold rit itm
        rw [if_pos (by omega)]
      rw [e2] at h
      simp only [Except.error.injEq, Prod.mk.injEq] at h
      omega

theorem ptl_step (s : ByteArray) (f q : Nat) (out : List (Nat → Bool)) : ptl s (f + 1) q out =
    if s.size ≤ q then .error (s.size, 133)
    else if byt s q = 34 then (if out.length = 0 then .error (q, 135) else .ok (out, q + 1))
    else if out.length = 64 then .error (q, 135)
    else match elm s q with
      | .error e => .error e
      | .ok (c, n) => ptl s f n (out ++ [c]) := by
  rw [ptl]
  cases elm s q <;> rfl

/-- Where the loop of elements stands. -/
structure Pt (w wr : World) (s : ByteArray) (q0 q fuel : Nat) (out : List (Nat → Bool)) (v : Value) : Prop where
  bel : Below w.heap.size w wr
  own : OwnC wr w.heap.size v out
  hi : q ≤ s.size
  fu : s.size + 1 ≤ fuel + q
  len : out.length ≤ 64
  eq : ptl s (s.size + 1) q0 [] = ptl s fuel q out

set_option maxRecDepth 100000 in
set_option maxHeartbeats 4000000 in
theorem elements_any (s : ByteArray) (q0 : Nat) (hs : s.size ≤ 1000000) (hq0 : q0 ≤ s.size) (w : World) :
    Calls Tryz.prog 59 #[.string s, .int .i64 (q0 : Int)] w fun e w' => (∃ v, e = .returned (.tuple #[v, .int .i64 (rpl (ptl s (s.size + 1) q0 []) : Nat), .int .i64 (rcd (ptl s (s.size + 1) q0 []) : Nat)]) ∧ OwnC w' w.heap.size v (rls (ptl s (s.size + 1) q0 []))) ∧ Below w.heap.size w w' := by
  obtain ⟨i0, hi0, hz0, hz1, hz2⟩ := infoC
  go_enter Tryz.func59, Tryz.ntmps59
  go_wp2_with fail
  refine wp_scope_once 0 (fun a' wr => ∃ (q fuel : Nat) (out : List (Nat → Bool)) (v : Value) (u8 u9 u10 u11 u12 u13 u14 u15 u16 u17 u18 u19 u20 u21 u22 u23 u24 u25 u26 u27 u28 u29 u30 u31 u32 u33 u34 u35 u36 u37 u38 u39 u40 u41 u42 u43 u44 u45 u46 u47 u48 u49 u50 u51 u52 u53 u54 u55 u56 : Value), a' = { tmps := #[.string s, .int .i64 (q : Int), undef, undef, .slice none 0 0, .int .i64 0, .int .i64 0, v, u8, u9, u10, u11, u12, u13, u14, u15, u16, u17, u18, u19, u20, u21, u22, u23, u24, u25, u26, u27, u28, u29, u30, u31, u32, u33, u34, u35, u36, u37, u38, u39, u40, u41, u42, u43, u44, u45, u46, u47, u48, u49, u50, u51, u52, u53, u54, u55, u56], defers := [] } ∧ Pt w wr s q0 q fuel out v) (fun a' _ => s.size - (intAt' (a'.tmps.getD 1 undef)).toNat) rfl ?_ ?_
  · rintro a' wr ⟨q, fuel, out, v, u8, u9, u10, u11, u12, u13, u14, u15, u16, u17, u18, u19, u20, u21, u22, u23, u24, u25, u26, u27, u28, u29, u30, u31, u32, u33, u34, u35, u36, u37, u38, u39, u40, u41, u42, u43, u44, u45, u46, u47, u48, u49, u50, u51, u52, u53, u54, u55, u56, rfl, hP⟩
    have HB : Hid (Below w.heap.size w wr) := hP.bel
    have HO : Hid (OwnC wr w.heap.size v out) := hP.own
    have hhi := hP.hi
    have hlen := hP.len
    obtain ⟨f', rfl⟩ : ∃ f', fuel = f' + 1 := ⟨fuel - 1, by have := hP.fu; omega⟩
    have hfu := hP.fu
    have heq := hP.eq
    rw [ptl_step s f' q out] at heq
    clear hP
    have hwq : IntKind.i64.wrap ((q : Int) + 1) = (q : Int) + 1 := by rw [IntKind.wrap_i64]; omega
    obtain ⟨ao, cap, rfl, hL⟩ := ownC_lf HO.out (by omega)
    clear hL
    by_cases hq : q < s.size
    · rw [if_neg (by omega)] at heq
      have hqI : ¬ (q : Int) = (s.size : Int) := by omega
      by_cases h34 : byt s q = 34
      · rw [if_pos h34] at heq
        have hi : ∀ w, (Instr.index 9 (.string s) (.int .i64 (q : Int))).run Tryz.prog w = .ok (.int .u8 34) w := fun w => by rw [idx_str s q hq w, h34]; rfl
        by_cases h0 : out.length = 0
        · rw [if_pos h0] at heq
          have HF : Hid _ := heq
          have h0I : ¬ 0 < (out.length : Int) := by omega
          clear heq
          go_wp2_with fail
          try simp only [Exit.jump]
          refine bodyPost_ret (results_tmp3 rfl _ _ _) rfl ?_
          refine ⟨⟨.slice none 0 0, by rw [HF.out]; rfl, by rw [HF.out]; exact ownC_nil _ _⟩, HB.out⟩
        · rw [if_neg h0] at heq
          have HF : Hid _ := heq
          have h0I : 0 < (out.length : Int) := by omega
          clear heq
          obtain ⟨m, hm⟩ : ∃ m, out.length = m := ⟨_, rfl⟩
          rw [hm] at h0I h0 hlen HO ⊢
          clear hm
          go_wp2_with fail
          try simp only [Exit.jump]
          refine bodyPost_ret (results_tmp3 rfl _ _ _) rfl ?_
          refine ⟨⟨_, by rw [HF.out]; rfl, by rw [HF.out]; exact HO.out⟩, HB.out⟩
      · rw [if_neg h34] at heq
        have hi : ∀ w, (Instr.index 9 (.string s) (.int .i64 (q : Int))).run Tryz.prog w = .ok (.int .u8 ((byt s q : Nat) : Int)) w := fun w => idx_str s q hq w
        have h34I : ((((byt s q : Nat) : Int)) == 34) = false := beq_eq_false_iff_ne.2 (by omega)
        by_cases h64 : out.length = 64
        · rw [if_pos h64] at heq
          have HF : Hid _ := heq
          have h64I : ((out.length : Int) == 64) = true := beq_iff_eq.2 (by omega)
          clear heq
          generalize byt s q = y at hi h34I h34
          go_wp2_with fail
          try simp only [Exit.jump]
          refine bodyPost_ret (results_tmp3 rfl _ _ _) rfl ?_
          refine ⟨⟨.slice none 0 0, by rw [HF.out]; rfl, by rw [HF.out]; exact ownC_nil _ _⟩, HB.out⟩
        · rw [if_neg h64] at heq
          have h64I : ((out.length : Int) == 64) = false := beq_eq_false_iff_ne.2 (by omega)
          have CE : Hid _ := fun (v : World) => element_any s q hs hq h34 v
          cases hr : elm s q with
          | error r =>
            obtain ⟨p, c⟩ := r
            have hc : ¬ (c : Int) = 0 := by have := elm_code0 hr; omega
            rw [hr] at CE heq
            have HF : Hid _ := heq
            unfold rdk at CE
            clear heq hr
            generalize byt s q = y at hi h34I h34
            go_wp2_with fail
            refine Calls.mono (CE.out wr) ?_; rintro e w3 ⟨rfl, b3⟩
            obtain ⟨w4, e4⟩ : ∃ w4, w4 = w3.alloc (.cells #[.int .u64 0, .int .u64 0, .int .u64 0, .int .u64 0] 67) := ⟨_, rfl⟩
            have k4 : Kb wr w4 w3.heap.size := by rw [e4]; exact kb_more b3 _ _ _ _ _
            have q4 : K4 w4 w3.heap.size (.int .u64 0) (.int .u64 0) (.int .u64 0) (.int .u64 0) := by rw [e4]; exact k4_new _ _ _ _ _ _
            obtain ⟨w5, e5⟩ : ∃ w5, w5 = set4v w4 w3.heap.size (.int .u64 0) (.int .u64 0) (.int .u64 0) (.int .u64 0) := ⟨_, rfl⟩
            have HB5 : Hid (Below w.heap.size w w5) := by
              show Below _ _ _
              rw [e5]
              exact HB.out.trans ((k4.put _ _ _ _).2.bel.mono HB.out.size)
            clear HB
            have HB : Hid (Below w.heap.size w w5) := HB5.out
            unfold set4v at e5
            have E4 : Hid _ := e4
            have E5 : Hid _ := e5
            obtain ⟨z0, z1, z2, z3⟩ := q4
            have ff0 := k4.f 0
            have ff1 := k4.f 1
            have ff2 := k4.f 2
            have ff3 := k4.f 3
            clear e4 e5 k4 b3 HO
            go_wp2_with (first | rw [← E4.out] | rw [← E5.out])
            try simp only [Exit.jump]
            refine bodyPost_ret (results_tmp3 rfl _ _ _) rfl ?_
            refine ⟨⟨.slice none 0 0, by rw [HF.out]; rfl, by rw [HF.out]; exact ownC_nil _ _⟩, HB.out⟩
          | ok r =>
            obtain ⟨f, n⟩ := r
            obtain ⟨n1, n2, _⟩ := elm_next hq hr
            rw [hr] at CE heq
            have HQ : Hid _ := heq
            unfold rdk at CE
            clear heq hr
            generalize byt s q = y at hi h34I h34
            go_wp2_with fail
            refine Calls.mono (CE.out wr) ?_; rintro e w3 ⟨rfl, b3⟩
            obtain ⟨w4, e4⟩ : ∃ w4, w4 = w3.alloc (.cells #[.int .u64 ((wd (f) 0 : Nat) : Int), .int .u64 ((wd (f) 1 : Nat) : Int), .int .u64 ((wd (f) 2 : Nat) : Int), .int .u64 ((wd (f) 3 : Nat) : Int)] 67) := ⟨_, rfl⟩
            have b34 : Below w3.heap.size w3 w4 := by rw [e4]; exact al_below _ _
            have q4 : Kc w4 w3.heap.size f := by rw [e4]; exact k4_new _ _ _ _ _ _
            have B4 : Below w.heap.size w w4 := HB.out.trans ((b3.trans (b34.mono b3.size)).mono HB.out.size)
            have O3 : w3.ownsRow w.heap.size 67 4 (.slice ao out.length cap) out.length (cls out) := owns_below HO.out b3 (Nat.le_refl _)
            have O4 : w4.ownsRow w.heap.size 67 4 (.slice ao out.length cap) out.length (cls out) := owns_below O3 b34 (Nat.le_refl _)
            have HB4 : Hid (Below w.heap.size w w4) := B4
            have E4 : Hid _ := e4
            have hsz : w.heap.size ≤ w4.heap.size := B4.size
            obtain ⟨c0, c1, c2, c3⟩ := q4
            clear e4 b34 b3 B4 HB HO O3
            go_wp2_with (first | rw [← E4.out] | (at_builtin; refine wpList_append_own _ rfl _ _ 32 rfl w.heap.size 67 i0 (.agg #[.int .u64 0, .int .u64 0, .int .u64 0, .int .u64 0]) 4 32 Tryz.underlying32 hi0 hz0 hz1 hz2 rfl (by decide) _ _ _ rfl (O4.alloc _) ⟨w4.heap.size, 0, none⟩ 1 1 (cls [f]) rfl rfl ?c1 ?c2 ?c3 ?c4 ?c5 ?_))
            case c1 => first | exact new4 _ _ | exact fun _ _ h => h
            case c2 => exact plain4 _
            case c3 => unfold maxLen; omega
            case c4 => omega
            case c5 => first | omega | (simp; omega) | (show _ ≤ (w4.heap.push _).size; simp; omega)
            · intro v' w5 hown' hgrow _
              have HR : Hid (Below w.heap.size w w5) := grow_below hsz HB4.out O4 hgrow
              have HO5 : Hid (OwnC w5 w.heap.size v' (out ++ [f])) := by show OwnC _ _ _ _; unfold OwnC; rw [cls_append, List.length_append]; exact hown'
              clear hown' hgrow O4 HB4 E4 c0 c1 c2 c3
              go_wp2_with fail
              go_step3
              refine ⟨rfl, ⟨n, f', out ++ [f], v', _, _, _, _, _, _, _, _, _, _, _, _, _, _, _, _, _, _, _, _, _, _, _, _, _, _, _, _, _, _, _, _, _, _, _, _, _, _, _, _, _, _, _, _, _, _, _, _, _, rfl, ⟨HR.out, HO5.out, n2, by omega, by rw [List.length_append, List.length_singleton]; omega, HQ.out⟩⟩, ?_⟩
              show s.size - ((n : Int)).toNat < s.size - ((q : Int)).toNat
              omega
    · obtain rfl : q = s.size := by omega
      rw [if_pos (Nat.le_refl _)] at heq
      have HF : Hid _ := heq
      clear heq
      go_wp2_with fail
      try simp only [Exit.jump]
      refine bodyPost_ret (results_tmp3 rfl _ _ _) rfl ?_
      refine ⟨⟨.slice none 0 0, by rw [HF.out]; rfl, by rw [HF.out]; exact ownC_nil _ _⟩, HB.out⟩
  · intro K
    have HK : Hid _ := K
    clear K
    go_wp2_with fail
    go_step3
    go_step
    go_step
    exact HK.out _ _ ⟨q0, s.size + 1, [], _, _, _, _, _, _, _, _, _, _, _, _, _, _, _, _, _, _, _, _, _, _, _, _, _, _, _, _, _, _, _, _, _, _, _, _, _, _, _, _, _, _, _, _, _, _, _, _, _, _, rfl, ⟨Below.refl _ _, ownC_nil _ _, hq0, by omega, by simp, rfl⟩⟩

end Cls
end Go.Proofs.YtbnnobeahliffaaGreatDoor
