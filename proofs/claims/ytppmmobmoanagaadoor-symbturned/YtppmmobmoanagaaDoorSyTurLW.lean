/- The walk of 'beaglelaw11.SymbTurned': it answers true; nothing that was there is turned. For the statement's proof. -/
import Derived.OpenShut
import Derived.ProofKit
import Derived.Test.YtppmmobmoanagaaDoorSyTur
namespace Go.Proofs.YtppmmobmoanagaaDoor.symbTurned
open Go.ChangeShapes Go.WideShapes Go.ChangeAt Go.RowKit Cls
set_option linter.unusedVariables false

set_option maxRecDepth 4000 in
set_option maxHeartbeats 4000000 in
theorem walk (ao : Option Addr) (n cap : Nat) (P : Nat → Nat → Bool) (K : Int) (t : ByteArray) (z : Int) (w : World) (hp : Lp w ao n P) (ht : t.size ≤ maxLen) (hz : (Lit.int .i64 z).wf = true) (hA : Tab w) :
    Calls Tryd.prog 8 #[.agg #[.slice ao n cap, .int .i64 K], .string t, .int .i64 z] w fun e w' => e = .returned (.bool true) ∧ Below w.heap.size w w' := by
  obtain ⟨w1, b1⟩ := lbox w (.slice ao n cap) (.int .i64 K)
  have E1 : Hid _ := b1.eq
  have B1 : Hid (Below w.heap.size w w1) := b1.bel
  have A1 : Hid (Tab w1) := hA.below b1.bel (tab_lt hA)
  have c0 := b1.c0
  have c1 := b1.c1
  have CA : Hid _ := fun (v : World) (hu : Tab v) => alive11_any v hu
  unfold maxLen at ht
  have hsm := hp.small
  have CF : Hid _ := few11_any n cap ao K t (by omega) hsm w1
  by_cases hn : n ≤ 100 ∧ t.size ≤ 300
  · rw [decide_eq_true hn] at CF
    obtain ⟨hn1, hn2⟩ := hn
    have TT : Hid (Ly w w1 w.heap.size ao n cap P K) := ⟨b1.bel, ⟨b1.c0, b1.c1⟩, (hp.grow b1.bel).lf hn1, A1.out⟩
    have hQ : ∀ j, j < n → at' (tnl P n n) j = P (n - 1 - j) := fun j hj => tnl_at P n n j hj
    have hlen := sc_len P n K t z
    have hsq : sq (at' (tnl P n n)) n K (trn t).size z = sq P n K t.size z := by rw [trn_size]; exact sq_turn hQ
    have hse : se (at' (tnl P n n)) n K (trn t).size z = se P n K t.size z := by rw [trn_size]; exact se_turn hQ
    obtain ⟨hsl, hsc⟩ := sc_turn (K := K) (z := z) hQ (trn_size t) (fun j hj => trn_byt t j hj)
    have CS : Hid _ := fun (v : World) (h1 : Tab v) (h3 : Lf v ao n P) => counts11_any P n cap ao K z t (by omega) v h1 h3
    have CR : Hid _ := fun (v : World) (bo : Option Addr) (d : Nat) (h1 : Tab v) (h3 : Lf v bo n (at' (tnl P n n))) => counts11_any (at' (tnl P n n)) n d bo K z (trn t) (by rw [trn_size]; omega) v h1 h3
    have HCV : Hid (∀ (v : Value) (u : World) (B : Nat), u.ownsRow B 5 1 v t.size (tbv t t.size) → (convert 49 9 v).run Tryd.prog u = .ok (.string (trn t)) u) := fun v u B h => trn_text t h
    obtain ⟨X, hX⟩ : ∃ X, sc P n K t z = X := ⟨_, rfl⟩
    obtain ⟨Y, hY⟩ : ∃ Y, sc (at' (tnl P n n)) n K (trn t) z = Y := ⟨_, rfl⟩
    rw [hX] at CS hlen
    rw [hY, hsq, hse] at CR
    simp only [hX, hY] at hsl hsc
    generalize sq P n K t.size z = Q at *
    generalize se P n K t.size z = C at *
    obtain ⟨l, hl⟩ : ∃ l, X.length = l := ⟨_, rfl⟩
    rw [hl] at hlen hsl
    have CS' : Hid (∀ (v : World), Tab v → Lf v ao n P → Calls Tryd.prog 16 #[.agg #[.slice ao n cap, .int .i64 K], .string t, .int .i64 z] v fun e w' => (∃ bo d, e = .returned (.tuple #[.slice bo l d, .int .i64 Q, .int .i64 C]) ∧ Is w' bo X) ∧ Below v.heap.size v w') := fun v h1 h3 => (CS.out v h1 h3).mono (fun e w' h => by rw [← hl]; exact h)
    have CR' : Hid (∀ (v : World) (bo : Option Addr) (d : Nat), Tab v → Lf v bo n (at' (tnl P n n)) → Calls Tryd.prog 16 #[.agg #[.slice bo n d, .int .i64 K], .string (trn t), .int .i64 z] v fun e w' => (∃ bo d, e = .returned (.tuple #[.slice bo l d, .int .i64 Q, .int .i64 C]) ∧ Is w' bo Y) ∧ Below v.heap.size v w') := fun v bo d h1 h3 => (CR.out v bo d h1 h3).mono (fun e w' h => by rw [← hsl]; exact h)
    have HSC : Hid (∀ i, i < l → X[i]? = Y[l - 1 - i]?) := fun i hi => by
      have h1 : i < X.length := by omega
      have h2 : X.length - 1 - i < Y.length := by omega
      have h := hsc i h1 h2
      rw [List.getElem?_eq_getElem h1, h, ← hl, List.getElem?_eq_getElem h2]
    have HLL : Hid (X.length = l ∧ Y.length = l) := ⟨hl, hsl⟩
    have hn4 : n ≤ 4398046511104 := by omega
    have eQ : (Q == Q) = true := by simp
    have eC : (C == C) = true := by simp
    generalize trn t = tq at *
    obtain ⟨i0, hi, hz0, hz1, hz2⟩ := infoC
    obtain ⟨j0, hj, hy0, hy1, hy2⟩ := infoL
    clear b1 hA hp A1 B1 hX hY hsq hse hsl hsc CS CR hl hz hQ
    go_enter Tryd.func8, Tryd.ntmps8
    go_wp2_with (first | rw [← E1.out])
    clear E1
    refine Calls.mono (Hid.out CF) ?_; rintro e w2 ⟨rfl, b2⟩
    have T2 : Hid (Ly w w2 w.heap.size ao n cap P K) := Ly.grow TT.out b2
    clear b2 TT c0 c1 CF
    obtain ⟨c0, c1⟩ := T2.out.c
    obtain ⟨w3, e3, b3, t3⟩ := tt_new w2 K P n
    have E3 : Hid _ := e3
    have T3 : Hid (Ly w w3 w.heap.size ao n cap P K) := Ly.grow T2.out b3
    have V3 : Hid (Tt w2 w3 w3 (.slice none 0 0) K P n 0) := t3
    have y2 : w.heap.size < w2.heap.size := World.block_lt_of_cell? w2 _ c0
    have d0 := T3.out.c.1
    clear e3 b3 t3
    go_wp2_with (first | rw [← E3.out])
    clear E3 c0 c1 d0
    go_loopw [29] (fun vk wr => ∃ k : Nat, k ≤ n ∧ vk = .int .i64 k ∧ ∃ v, Tt w2 w3 wr v K P n k) (fun vk _ => n - (intOf vk).toNat)
    case atStart => exact ⟨0, Nat.zero_le _, rfl, _, V3.out⟩
    case round =>
      obtain ⟨k, hk, rfl, v, hT⟩ := hrel
      have VT : Hid (Tt w2 w3 wr v K P n k) := hT
      have TL : Hid (Ly w wr w.heap.size ao n cap P K) := Ly.grow T2.out hT.bel
      clear hT
      by_cases hkn : k < n
      · obtain ⟨b, o, rfl, hb, hC⟩ := TL.out.l.lies (by omega)
        obtain ⟨q, hq⟩ : ∃ q, n - 1 - k = q := ⟨_, rfl⟩
        have hqn : q < n := by omega
        obtain ⟨x0, x1, x2, x3⟩ := hC.four hqn
        have hkI : (k : Int) < (n : Int) := by omega
        have hqI : (n : Int) - 1 - (k : Int) = (q : Int) := by omega
        have hqlt : (q : Int) < (n : Int) := by omega
        have hw1 : IntKind.i64.wrap ((n : Int) - 1) = (n : Int) - 1 := by rw [IntKind.wrap_i64]; omega
        have hw2 : IntKind.i64.wrap ((n : Int) - 1 - (k : Int)) = (q : Int) := by rw [hqI, IntKind.wrap_i64]; omega
        have hw3 : IntKind.i64.wrap (q : Int) = (q : Int) := by rw [IntKind.wrap_i64]; omega
        have hq0 : (0 : Int) ≤ (q : Int) := by omega
        have HST : Hid (∀ (w4 : World) (g cp : Nat) (ob : Obj), w4.ownsRow w3.heap.size 27 4 (.slice (some ⟨g, 0, none⟩) (k + 1) cp) (k + 1) (cls (tnl P n k) ++ cls [P q]) → (wr.alloc ob).grownBy w4 v.ownBlock → w4.cell? ⟨w2.heap.size, 0, none⟩ = some v ∧ w4.frozen? ⟨w2.heap.size, 0, none⟩ = false ∧ Tt w2 w3 (w4.setCell ⟨w2.heap.size, 0, none⟩ (.slice (some ⟨g, 0, none⟩) (k + 1) cp)) (.slice (some ⟨g, 0, none⟩) (k + 1) cp) K P n (k + 1)) := fun w4 g cp ob h1 h2 => by
          rw [← hq] at h1
          exact Tt.step VT.out h1 h2
        have hc := VT.out.c.1
        have hl0 := TL.out.c.1
        have hb7 : w2.heap.size < wr.heap.size := Nat.lt_of_lt_of_le VT.out.lt VT.out.size
        have hca : (wr.alloc (.cells #[.int .u64 ((wd (P q) 0 : Nat) : Int), .int .u64 ((wd (P q) 1 : Nat) : Int), .int .u64 ((wd (P q) 2 : Nat) : Int), .int .u64 ((wd (P q) 3 : Nat) : Int)] 27)).cell? ⟨w2.heap.size, 0, none⟩ = some v := (World.cell?_alloc_lt _ _ _ hb7).trans hc
        have O3 := VT.out.own
        have hszr := VT.out.size
        clear hC
        generalize P q = f at *
        go_wp2_with fail
        go_region_law ((refine step_append_lies _ (by rfl) _ _ _ (by rfl) w3.heap.size 27 i0 (.agg #[.int .u64 0, .int .u64 0, .int .u64 0, .int .u64 0]) 4 32 Tryd.underlying22 hi hz0 hz1 hz2 (by rfl) (by decide) v k (cls (tnl P n k)) (by simp [Act.eval]) ((O3.alloc _).drew) ⟨wr.heap.size, 0, none⟩ 1 1 (cls [f]) (by simp [Act.eval]) (by rfl) (fun j u h => new4 wr f j u h) (plain4 _) (by omega) (by unfold maxLen; omega) (by omega) (by simp; omega) _ (by rfl) ?_; intro g cp w4 hown4 hgrow hat hlt; obtain ⟨q0, q1, hq4⟩ := HST.out w4 g cp _ hown4 (grown_of_drew hgrow); have T4 : Hid _ := hq4; clear hq4 hown4 hgrow hat hlt))
        all_goals
          go_wp2_with fail
          go_roundw
          case rel => exact ⟨k + 1, by omega, by go_num, _, T4.out⟩
          case measure => simp [intOf]; omega
      · obtain rfl : k = n := by omega
        obtain ⟨bo, d, hv, lq⟩ := VT.out.done hn4
        subst hv
        have LQ : Hid (Lf wr bo k (at' (tnl P k k))) := lq
        have TC : Hid (wr.cell? ⟨w2.heap.size, 0, none⟩ = some (.slice bo k d) ∧ wr.cell? ⟨w2.heap.size, 1, none⟩ = some (.int .i64 K)) := VT.out.c
        have yb : w2.heap.size < wr.heap.size := Nat.lt_of_lt_of_le VT.out.lt VT.out.size
        clear lq V3 VT
        generalize w2.heap.size = gb at *
        obtain ⟨wb, hwb⟩ : ∃ wb, wb = wr := ⟨_, rfl⟩
        subst hwb
        go_wp2_with fail
        go_loopw [9, 50] (fun vb vk wr => Below wb.heap.size wb wr ∧ ∃ i : Nat, i ≤ t.size ∧ vk = .int .i64 i ∧ wr.ownsRow wb.heap.size 5 1 vb i (tbv t i)) (fun _ vk _ => t.size - (intOf vk).toNat)
        case atStart => exact ⟨Below.refl _ _, 0, Nat.zero_le _, rfl, World.ownsRow_nil _ _ _ _⟩
        case round =>
          obtain ⟨hbel, i, hit, rfl, hown⟩ := hrel
          have HB : Hid (Below wb.heap.size wb wr) := hbel
          have HO : Hid (wr.ownsRow wb.heap.size 5 1 u9 i (tbv t i)) := hown
          have hsz := hbel.size
          clear hbel
          by_cases hlt : i < t.size
          · obtain ⟨q, hq⟩ : ∃ q, t.size - 1 - i = q := ⟨_, rfl⟩
            have hqt : q < t.size := by omega
            have hidx := idx_str t q hqt
            have hiI : (i : Int) < (t.size : Int) := by omega
            have hqI : (t.size : Int) - 1 - (i : Int) = (q : Int) := by omega
            have hqlt : (q : Int) < (t.size : Int) := by omega
            have hq0 : (0 : Int) ≤ (q : Int) := by omega
            have hw1 : IntKind.i64.wrap ((t.size : Int) - 1) = (t.size : Int) - 1 := by rw [IntKind.wrap_i64]; omega
            have hw2 : IntKind.i64.wrap ((t.size : Int) - 1 - (i : Int)) = (q : Int) := by rw [hqI, IntKind.wrap_i64]; omega
            have hw3 : IntKind.i64.wrap (q : Int) = (q : Int) := by rw [IntKind.wrap_i64]; omega
            have HSu : Hid (tbv t (i + 1) = tbv t i ++ [.int .u8 ((byt t q : Nat) : Int)]) := by show _ = _; rw [tbv_succ, hq]
            generalize byt t q = x at *
            go_wp2_with (first | (at_builtin; refine wpList_append_own _ rfl _ _ 49 rfl wb.heap.size 5 j0 (.int .u8 0) 1 1 Tryd.underlying49 hj hy0 hy1 hy2 rfl (by decide) _ _ _ rfl (hown.alloc _) ⟨wr.heap.size, 0, none⟩ 1 1 [.int .u8 (x : Int)] rfl rfl ?c1 ?c2 ?c3 ?c4 ?c5 ?_))
            case c1 =>
              intro j' u hj'
              match j', hj' with
              | 0, hj' => simp at hj'; subst hj'; simp [Addr.add]
            case c2 => intro u hu; simp at hu; subst hu; rfl
            case c3 => unfold maxLen; omega
            case c4 => omega
            case c5 => simp; omega
            · intro v' w4 hown' hgrow _
              have HR : Hid (Below wb.heap.size wb w4) := grow_below hsz HB.out HO.out hgrow
              have HO4 : Hid (w4.ownsRow wb.heap.size 5 1 v' (i + 1) (tbv t (i + 1))) := by show World.ownsRow _ _ _ _ _ _ _; rw [HSu.out]; exact hown'
              clear hown' hgrow hown HO HB
              go_wp2_with fail
              go_roundw
              case rel => exact ⟨HR.out, i + 1, by omega, by go_num, HO4.out⟩
              case measure => simp [intOf]; omega
          · obtain rfl : i = t.size := by omega
            have T4 : Hid (Ly w wr w.heap.size ao k cap P K) := Ly.grow TL.out HB.out
            have L4 : Hid (Lf wr bo k (at' (tnl P k k))) := LQ.out.grow HB.out
            have C4 : Hid (wr.cell? ⟨gb, 0, none⟩ = some (.slice bo k d) ∧ wr.cell? ⟨gb, 1, none⟩ = some (.int .i64 K)) := two_below TC.out HB.out yb
            have y4 : gb < wr.heap.size := Nat.lt_of_lt_of_le yb hsz
            have cs : Hid _ := CS'.out wr T4.out.ta T4.out.l
            obtain ⟨k0, k1⟩ := T4.out.c
            clear hown LQ TC TL CS' HB
            go_wp2_with fail
            refine Calls.mono (Hid.out cs) ?_; rintro e w5 ⟨⟨xo, xc, rfl, ix⟩, b5⟩
            have T5 : Hid (Ly w w5 w.heap.size ao k cap P K) := Ly.grow T4.out b5
            have L5 : Hid (Lf w5 bo k (at' (tnl P k k))) := L4.out.grow b5
            have X5 : Hid (Is w5 xo X) := ix
            have hcv := HCV.out u9 w5 wb.heap.size (Cls.owns_below HO.out b5 (Nat.le_refl _))
            have cr : Hid _ := CR'.out w5 bo d T5.out.ta L5.out
            clear k0 k1 cs
            obtain ⟨k0, k1⟩ := two_below C4.out b5 y4
            clear b5 ix HO T4 L4 C4 CR' HCV
            go_wp2_with fail
            refine Calls.mono (Hid.out cr) ?_; rintro e w6 ⟨⟨yo, yc, rfl, iy⟩, b6⟩
            have T6 : Hid (Ly w w6 w.heap.size ao k cap P K) := Ly.grow T5.out b6
            have X6 : Hid (Is w6 xo X) := X5.out.grow b6
            have Y6 : Hid (Is w6 yo Y) := iy
            clear b6 iy T5 L5 X5 cr k0 k1 hcv
            go_wp2_with fail
            go_loopw [98] (fun vk wr => Below w6.heap.size w6 wr ∧ ∃ i : Nat, i ≤ l ∧ vk = .int .i64 i) (fun vk _ => l - (intOf vk).toNat)
            case atStart => exact ⟨Below.refl _ _, 0, Nat.zero_le _, rfl⟩
            case round =>
              obtain ⟨hb7, i, hil, rfl⟩ := hrel
              have B7 : Hid (Below w6.heap.size w6 wr) := hb7
              have X7 : Hid (Is wr xo X) := X6.out.grow hb7
              have Y7 : Hid (Is wr yo Y) := Y6.out.grow hb7
              clear hb7
              by_cases hi7 : i < l
              · have hiI : (i : Int) < (l : Int) := by omega
                obtain ⟨q, hq⟩ : ∃ q, l - 1 - i = q := ⟨_, rfl⟩
                have hql : q < l := by omega
                have hx := HSC.out i hi7
                rw [hq] at hx
                have hiX : i < X.length := by rw [HLL.out.1]; exact hi7
                have hqY : q < Y.length := by rw [HLL.out.2]; exact hql
                obtain ⟨bx, rfl, hltx, hcx⟩ := X7.out (by omega)
                obtain ⟨by', rfl, hlty, hcy⟩ := Y7.out (by omega)
                have xc1 := hcx i hiX
                have yc1 := hcy q hqY
                have hxy : X[i] = Y[q] := by rw [List.getElem?_eq_getElem hiX, List.getElem?_eq_getElem hqY] at hx; exact Option.some.inj hx
                rw [hxy] at xc1
                generalize Y[q] = x at *
                have hqI : (l : Int) - 1 - (i : Int) = (q : Int) := by omega
                have hqlt : (q : Int) < (l : Int) := by omega
                have hq0 : (0 : Int) ≤ (q : Int) := by omega
                have hw1 : IntKind.i64.wrap ((l : Int) - 1) = (l : Int) - 1 := by rw [IntKind.wrap_i64]; omega
                have hw2 : IntKind.i64.wrap ((l : Int) - 1 - (i : Int)) = (q : Int) := by rw [hqI, IntKind.wrap_i64]; omega
                have hw3 : IntKind.i64.wrap (q : Int) = (q : Int) := by rw [IntKind.wrap_i64]; omega
                have eN : (((x : Nat) : Int) == ((x : Nat) : Int)) = true := by simp
                clear hx hcx hcy
                go_wp2_with fail
                go_quiet (fail)
                go_wp2_with fail
                go_roundw
                case rel => exact ⟨below_drewN B7.out nq, i + 1, by omega, by go_num⟩
                case measure => simp [intOf]; omega
              · obtain rfl : i = l := by omega
                have T7 : Hid (Ly w wr w.heap.size ao k cap P K) := Ly.grow T6.out B7.out
                have ca : Hid _ := CA.out wr T7.out.ta
                clear X7 Y7
                go_wp2_with fail
                refine Calls.mono (Hid.out ca) ?_; rintro e w9 ⟨rfl, b9⟩
                have T9 : Hid (Ly w w9 w.heap.size ao k cap P K) := Ly.grow T7.out b9
                clear b9 ca
                go_wp2_with fail
                go_ret
                exact ⟨rfl, T9.out.bel⟩
  · rw [decide_eq_false hn] at CF
    clear hn b1 hA hp
    go_enter Tryd.func8, Tryd.ntmps8
    go_wp2_with (first | rw [← E1.out])
    refine Calls.mono (Hid.out CF) ?_; rintro e w2 ⟨rfl, b2⟩
    have B2 : Hid (Below w.heap.size w w2) := B1.out.trans (b2.mono B1.out.size)
    have CA2 : Hid _ := CA.out w2 (A1.out.below b2 (tab_lt A1.out))
    clear b2 CA CF c0 c1 E1
    go_wp2_with fail
    refine Calls.mono (Hid.out CA2) ?_; rintro e w3 ⟨rfl, b3⟩
    have B3 : Hid (Below w.heap.size w w3) := B2.out.trans (b3.mono B2.out.size)
    clear b3 CA2
    go_wp2_with fail
    go_ret
    exact ⟨rfl, B3.out⟩

end Go.Proofs.YtppmmobmoanagaaDoor.symbTurned
