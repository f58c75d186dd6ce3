/- The walk of 'beaglelaw07.LeafOnce': it answers true; nothing that was there is turned. For the statement's proof. -/
import Derived.OpenShut
import Derived.ProofKit
import Derived.Test.YtcohcdebbkfdfaaDoorLfOnceR
namespace Go.Proofs.YtcohcdebbkfdfaaDoor.leafOnce
open Go.ChangeShapes Go.WideShapes Go.ChangeAt Go.RowKit Cls
set_option linter.unusedVariables false

set_option maxRecDepth 4000 in
set_option maxHeartbeats 4000000 in
theorem walk (ao : Option Addr) (n cap : Nat) (P : Nat → Nat → Bool) (K : Int) (w : World) (hp : Lp w ao n P) (hT : TabB w) :
    Calls Tryd.prog 7 #[.agg #[.slice ao n cap, .int .i64 K]] w fun e w' => e = .returned (.bool true) ∧ Below w.heap.size w w' := by
  obtain ⟨w1, b1⟩ := lbox w (.slice ao n cap) (.int .i64 K)
  have E1 : Hid _ := b1.eq
  have B1 : Hid (Below w.heap.size w w1) := b1.bel
  have T1 : Hid (TabB w1) := hT.grow b1.bel
  have c0 := b1.c0
  have c1 := b1.c1
  have CA : Hid _ := fun (v : World) (hv : TabB v) => alive07_any v hv
  by_cases hn : n ≤ 100
  · have TT : Hid (Lw w w1 w.heap.size ao n cap P K) := ⟨b1.bel, ⟨b1.c0, b1.c1⟩, (hp.grow b1.bel).lf hn, T1.out⟩
    have CF : Hid _ := few07_any n cap ao K w1 hp.small true (by simp [hn])
    have CK : Hid _ := fun (v : World) (hv : Lf v ao n P) => kinds_core P n cap ao K v hv
    have CW : Hid _ := fun (v : World) (c : Nat → Bool) (hv : Lf v ao n P) => where_core P c n cap ao K v hv
    have CB : Hid _ := fun (v : World) (hv : Lf v ao n P) => bound_any P n cap ao K v hv
    have hmk := make1 n (by omega)
    have hkl := kd_len P n
    have HE : Hid (∀ N : List Nat, ∀ t, t < n → tv P (kd P n) (kd P n).length N 0 t = .int .i64 (((!fr (P t)).toNat : Nat) : Int)) := fun N => tv_end P n N
    obtain ⟨L, hL⟩ : ∃ L, kd P n = L := ⟨_, rfl⟩
    rw [hL] at hkl HE CK
    clear hL
    clear b1 hT hp T1 B1
    go_enter Tryd.func7, Tryd.ntmps7
    go_wp2_with (first | rw [← E1.out])
    clear E1
    refine Calls.mono (Hid.out CF) ?_; rintro e w2 ⟨rfl, b2⟩
    have TB : Hid (Lw w w2 w.heap.size ao n cap P K) := Lw.grow TT.out b2
    clear b2 TT CF c0 c1
    have TT : Hid (Lw w w2 w.heap.size ao n cap P K) := TB.out
    clear TB
    obtain ⟨c0, c1⟩ := TT.out.c
    obtain ⟨w3, e3⟩ : ∃ w3, w3 = w2.alloc (.cells (madeCells #[.int .i64 0] n) 3) := ⟨_, rfl⟩
    have O3 : Hid (On w2 w3 w2.heap.size n (tv P L 0 [] 0)) := by show On _ _ _ _ _; rw [e3]; exact (On.made w2 n).congr (tv_first P _ n _)
    have E3 : Hid _ := e3
    clear e3
    have q0 := (Lw.grow TT.out O3.out.bel).c.1
    have q1 := (Lw.grow TT.out O3.out.bel).c.2
    go_wp2_with (first | rw [← E3.out])
    refine Calls.mono (CK.out w3 (Lw.grow TT.out O3.out.bel).l) ?_; rintro e w4 ⟨⟨ko, kc, rfl, hk, hz⟩, b4⟩
    have KK : Hid (Kr w4 ko L.length (at' L) w2.heap.size) := Kr.of hk hz O3.out.lt
    have O4 : Hid (On w2 w4 w2.heap.size n (tv P L 0 [] 0)) := O3.out.grow b4
    clear hk hz b4 O3 E3 hmk c0 c1 q0 q1
    generalize w2.heap.size = gt at *
    clear CK
    go_wp2_with fail
    go_loopw [23] (fun vk wr => ∃ j : Nat, j ≤ L.length ∧ vk = .int .i64 j ∧ On w2 wr gt n (tv P L j [] 0) ∧ Kr wr ko L.length (at' L) gt) (fun vk _ => L.length - (intOf vk).toNat)
    case atStart => exact ⟨0, Nat.zero_le _, rfl, O4.out, KK.out⟩
    case round =>
      obtain ⟨j, hj, rfl, hO, hK⟩ := hrel
      have OR : Hid (On w2 wr gt n (tv P L j [] 0)) := hO
      have KR : Hid (Kr wr ko L.length (at' L) gt) := hK
      clear hO hK O4 KK
      by_cases hjn : j < L.length
      · obtain ⟨gk, rfl, hgl, hgn, hCl⟩ := KR.out (by omega)
        obtain ⟨a0, a1, a2, a3⟩ := hCl.four hjn
        rw [Nat.zero_add] at a0 a1 a2 a3
        have hjI : (j : Int) < (L.length : Int) := by omega
        obtain ⟨w5, b5⟩ := box wr (at' L j)
        have E5 : Hid _ := b5.eq
        have O5 : Hid (On w2 w5 gt n (tv P L j [] 0)) := OR.out.grow b5.bel
        have K5 : Hid (Kr w5 (some ⟨gk, 0, none⟩) L.length (at' L) gt) := KR.out.grow b5.bel
        obtain ⟨f0, f1, f2, f3⟩ := c4 b5.fam
        have T5 : Hid (Lw w w5 w.heap.size ao n cap P K) := Lw.grow TT.out O5.out.bel
        obtain ⟨q0, q1⟩ := T5.out.c
        obtain ⟨M, hM⟩ : ∃ M, wh P (at' L j) n = M := ⟨_, rfl⟩
        have c5 : Hid _ := CW.out w5 (at' L j) T5.out.l
        have HWl : Hid (∀ q, (h : q < M.length) → M[q] < n) := by subst hM; exact fun q h => wh_lt P _ h
        have HNx : Hid (∀ t, t < n → tv P L j M M.length t = tv P L (j + 1) [] 0 t) := by subst hM; exact tv_next P L hjn []
        have hMl : M.length ≤ 100 := by rw [← hM]; exact Nat.le_trans (wh_len P _ n) hn
        rw [hM] at c5
        clear hCl b5 hM
        go_wp2_with (first | rw [← E5.out])
        refine Calls.mono (Hid.out c5) ?_; rintro e w6 ⟨⟨uo, uc, rfl, hi, hz⟩, b6⟩
        have W6 : Hid (Wr w6 uo M gt) := Wr.of hi hz O5.out.lt
        have O6 : Hid (On w2 w6 gt n (tv P L j M 0)) := (O5.out.grow b6).congr (tv_start P L j n [] M)
        have K6 : Hid (Kr w6 (some ⟨gk, 0, none⟩) L.length (at' L) gt) := K5.out.grow b6
        clear hi hz b6 c5 E5 O5 K5 OR KR T5 a0 a1 a2 a3 f0 f1 f2 f3 q0 q1
        go_wp2_with fail
        go_loopw [31] (fun vq wi => ∃ q : Nat, q ≤ M.length ∧ vq = .int .i64 q ∧ On w2 wi gt n (tv P L j M q) ∧ Kr wi (some ⟨gk, 0, none⟩) L.length (at' L) gt ∧ Wr wi uo M gt) (fun vq _ => M.length - (intOf vq).toNat)
        case atStart => exact ⟨0, Nat.zero_le _, rfl, O6.out, K6.out, W6.out⟩
        case round =>
          obtain ⟨q, hq, rfl, hO, hK, hW⟩ := hrel
          have OQ : Hid (On w2 wr gt n (tv P L j M q)) := hO
          have KQ : Hid (Kr wr (some ⟨gk, 0, none⟩) L.length (at' L) gt) := hK
          have WQ : Hid (Wr wr uo M gt) := hW
          clear hO hK hW O6 K6 W6
          by_cases hqn : q < M.length
          · obtain ⟨b, rfl, hbl, hbn, hc⟩ := WQ.out (by omega)
            have hqI : (q : Int) < (M.length : Int) := by omega
            have d0 := hc q hqn
            obtain ⟨i, hi⟩ : ∃ i, M[q] = i := ⟨_, rfl⟩
            have hin : i < n := by rw [← hi]; exact HWl.out q hqn
            obtain ⟨x, hx, hxl, d1⟩ := tv_at OQ.out hin
            have d2 := Wrt.zero OQ.out.wrt i hin
            have OS : Hid _ := On.step OQ.out hqn hi hin hx
            have KS : Hid _ := Kr.set KQ.out (i := i) (.int .i64 ((x : Int) + 1))
            have WS : Hid _ := Wr.set WQ.out (i := i) (.int .i64 ((x : Int) + 1))
            rw [hi] at d0
            have hx2 : x ≤ 200 := by omega
            have hi0 : ¬ (i : Int) < 0 := by omega
            have hi1 : ¬ (n : Int) ≤ (i : Int) := by omega
            clear hc hx hxl hi
            go_wp2_with fail
            go_roundw
            case rel => exact ⟨q + 1, by omega, by go_num, OS.out, KS.out, WS.out⟩
            case measure => simp [intOf]; omega
          · obtain rfl : q = M.length := by omega
            have OS : Hid (On w2 wr gt n (tv P L (j + 1) [] 0)) := OQ.out.congr HNx.out
            go_wp2_with fail
            go_roundw
            case rel => exact ⟨j + 1, by omega, by go_num, OS.out, KQ.out⟩
            case measure => simp [intOf]; omega
      · obtain rfl : j = L.length := by omega
        have OE : Hid (On w2 wr gt n (fun t => .int .i64 (((!fr (P t)).toNat : Nat) : Int))) := OR.out.congr (HE.out [])
        have q0 := (Lw.grow TT.out OE.out.bel).c.1
        clear OR KR HE CW
        go_wp2_with fail
        clear q0
        go_loopw [8, 54] (fun vn vk wr => ∃ k : Nat, k ≤ n ∧ vk = .int .i64 k ∧ vn = .int .i64 ((bnd P k : Nat) : Int) ∧ On w2 wr gt n (fun t => .int .i64 (((!fr (P t)).toNat : Nat) : Int))) (fun _ vk _ => n - (intOf vk).toNat)
        case atStart => exact ⟨0, Nat.zero_le _, rfl, rfl, OE.out⟩
        case round =>
          obtain ⟨k, hk, rfl, rfl, hO⟩ := hrel
          have OK : Hid (On w2 wr gt n (fun t => .int .i64 (((!fr (P t)).toNat : Nat) : Int))) := hO
          have TK : Hid (Lw w wr w.heap.size ao n cap P K) := Lw.grow TT.out OK.out.bel
          clear hO OE
          by_cases hkn : k < n
          · obtain ⟨b, o, hao, hb, hC⟩ := TK.out.l.lies (by omega)
            obtain ⟨c0, c1, c2, c3⟩ := hC.four hkn
            have hkI : (k : Int) < (n : Int) := by omega
            obtain ⟨w7, b7⟩ := box wr (P k)
            have E7 : Hid _ := b7.eq
            have O7 : Hid (On w2 w7 gt n (fun t => .int .i64 (((!fr (P t)).toNat : Nat) : Int))) := OK.out.grow b7.bel
            obtain ⟨f0, f1, f2, f3⟩ := c4 b7.fam
            have cc : Hid _ := refSize_any (P k) w7
            have hs : Hid _ := bnd_succ P k
            have hle := bnd_le P k
            have hfs := fr_size (P k)
            have hcl := cb_le256 (P k) 256
            obtain ⟨z, hz⟩ : ∃ z, cb (P k) 0 256 = z := ⟨_, rfl⟩
            rw [hz] at cc hfs hcl
            subst hao
            clear hC b7 hz
            cases hf : fr (P k) with
            | true =>
              have hz2 : ¬ (z : Int) < 256 := by rw [hf] at hfs; simp at hfs; omega
              rw [hf] at hs
              clear hfs
              go_wp2_with (first | rw [← E7.out])
              refine Calls.mono (Hid.out cc) ?_; rintro e w8 ⟨rfl, b8⟩
              have O8 : Hid (On w2 w8 gt n (fun t => .int .i64 (((!fr (P t)).toNat : Nat) : Int))) := O7.out.grow b8
              have d0 := O8.out.row k hkn
              simp only [hf, Bool.not_true, Bool.toNat_false] at d0
              clear b8 f0 f1 f2 f3 c0 c1 c2 c3
              go_wp2_with fail
              go_roundw
              case rel => exact ⟨k + 1, by omega, by go_num, by rw [hs.out]; simp, O8.out⟩
              case measure => simp [intOf]; omega
            | false =>
              have hz2 : (z : Int) < 256 := by rw [hf] at hfs; have : ¬ z = 256 := by intro e; subst e; simp at hfs
                                               omega
              rw [hf] at hs
              clear hfs
              go_wp2_with (first | rw [← E7.out])
              refine Calls.mono (Hid.out cc) ?_; rintro e w8 ⟨rfl, b8⟩
              have O8 : Hid (On w2 w8 gt n (fun t => .int .i64 (((!fr (P t)).toNat : Nat) : Int))) := O7.out.grow b8
              have d0 := O8.out.row k hkn
              simp only [hf, Bool.not_false, Bool.toNat_true] at d0
              clear b8 f0 f1 f2 f3 c0 c1 c2 c3
              go_wp2_with fail
              go_roundw
              case rel => exact ⟨k + 1, by omega, by go_num, by rw [hs.out]; go_num, O8.out⟩
              case measure => simp [intOf]; omega
          · obtain rfl : k = n := by omega
            obtain ⟨c0, c1⟩ := TK.out.c
            obtain ⟨N, hN⟩ : ∃ N, bnd P k = N := ⟨_, rfl⟩
            rw [hN] at CB
            rw [hN]
            clear TT hN
            have TT : Hid (Lw w wr w.heap.size ao k cap P K) := TK.out
            clear TK
            go_wp2_with fail
            refine Calls.mono (CA.out wr TT.out.tab) ?_; rintro e w8 ⟨rfl, b8⟩
            have TB : Hid (Lw w w8 w.heap.size ao k cap P K) := Lw.grow TT.out b8
            clear b8 TT c0 c1
            obtain ⟨c0, c1⟩ := TB.out.c
            go_wp2_with fail
            refine Calls.mono (CB.out w8 TB.out.l) ?_; rintro e w9 ⟨rfl, b9⟩
            have TT : Hid (Lw w w9 w.heap.size ao k cap P K) := Lw.grow TB.out b9
            clear b9
            go_wp2_with fail
            go_ret
            exact ⟨rfl, TT.out.bel⟩
  · have CF : Hid _ := few07_any n cap ao K w1 hp.small false (by simp [hn])
    clear b1 hT hp
    go_enter Tryd.func7, Tryd.ntmps7
    go_wp2_with (first | rw [← E1.out])
    clear E1
    refine Calls.mono (Hid.out CF) ?_; rintro e w2 ⟨rfl, b2⟩
    have T2 : Hid (TabB w2) := T1.out.grow b2
    have B2 : Hid (Below w.heap.size w w2) := B1.out.trans (b2.mono B1.out.size)
    clear b2
    go_wp2_with fail
    refine Calls.mono (CA.out w2 T2.out) ?_; rintro e w3 ⟨rfl, b3⟩
    have B3 : Hid (Below w.heap.size w w3) := B2.out.trans (b3.mono B2.out.size)
    clear b3
    go_wp2_with fail
    go_ret
    exact ⟨rfl, B3.out⟩

end Go.Proofs.YtcohcdebbkfdfaaDoor.leafOnce
