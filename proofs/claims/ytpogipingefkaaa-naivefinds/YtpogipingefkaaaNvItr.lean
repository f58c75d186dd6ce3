/- Contracts of naive.places, and of the function that it tells: the places at which a leaf stands, from one on. -/
import Derived.Test.YtpogipingefkaaaNvProg
import Derived.Test.YtpogipingefkaaaSeq
import Derived.Shelf.Abstract
import Derived.Shelf.RegionOpen
import Derived.WalkKit
import Derived.TacticsInMore
import Derived.LoopNIn
import Derived.LoopIn
namespace Go.Proofs.Ytpogipingefkaaa
open Go.RowKit Go.Shelf
namespace Cls

/-- The places from f on that are below m. -/
def plc (f m : Nat) : List Nat := List.range' f (m - f)

abbrev enc1 (x : Nat) : Array Value := #[.int .i64 (x : Int)]

/-- What a function that goes through places has caught: a leaf, a text, a number, each in a box. -/
structure Cau (w : World) (bl bs bf : Nat) (ao : Option Addr) (n cap : Nat) (P : Nat → Nat → Bool) (K : Int) (s : ByteArray) (x : Int) : Prop where
  l0 : w.cell? ⟨bl, 0, none⟩ = some (.slice ao n cap)
  l1 : w.cell? ⟨bl, 1, none⟩ = some (.int .i64 K)
  s0 : w.cell? ⟨bs, 0, none⟩ = some (.string s)
  x0 : w.cell? ⟨bf, 0, none⟩ = some (.int .i64 x)
  lf : Lf w ao n P

theorem lt_of_cell {w : World} {b o : Nat} {v : Value} (h : w.cell? ⟨b, o, none⟩ = some v) : b < w.heap.size := World.block_lt_of_cell? w _ h

theorem Cau.grow {w w' : World} {bl bs bf n cap : Nat} {ao : Option Addr} {P : Nat → Nat → Bool} {K x : Int} {s : ByteArray} (h : Cau w bl bs bf ao n cap P K s x) (hb : Below w.heap.size w w') : Cau w' bl bs bf ao n cap P K s x :=
  ⟨(hb.cell (p := ⟨bl, 0, none⟩) (lt_of_cell h.l0)).trans h.l0, (hb.cell (p := ⟨bl, 1, none⟩) (lt_of_cell h.l0)).trans h.l1, (hb.cell (p := ⟨bs, 0, none⟩) (lt_of_cell h.s0)).trans h.s0, (hb.cell (p := ⟨bf, 0, none⟩) (lt_of_cell h.x0)).trans h.x0, h.lf.grow hb⟩

/-- The blocks in which that lies. -/
def Blk3 (bl bs bf : Nat) (ao : Option Addr) (n k : Nat) : Prop := k = bl ∨ k = bs ∨ k = bf ∨ (1 ≤ n ∧ ∃ o, ao = some ⟨k, o, none⟩)

theorem Cau.kept {A : Nat → Prop} {w w' : World} {bl bs bf n cap : Nat} {ao : Option Addr} {P : Nat → Nat → Bool} {K x : Int} {s : ByteArray} (h : Cau w bl bs bf ao n cap P K s x) (hb : Fr A w w') (hA : ∀ k, k < w.heap.size → Blk3 bl bs bf ao n k → A k) : Cau w' bl bs bf ao n cap P K s x := by
  have k1 := lt_of_cell h.l0
  have k2 := lt_of_cell h.s0
  have k3 := lt_of_cell h.x0
  refine ⟨(hb.cell (p := ⟨bl, 0, none⟩) (hA _ k1 (.inl rfl)) k1).trans h.l0, (hb.cell (p := ⟨bl, 1, none⟩) (hA _ k1 (.inl rfl)) k1).trans h.l1, (hb.cell (p := ⟨bs, 0, none⟩) (hA _ k2 (.inr (.inl rfl))) k2).trans h.s0, (hb.cell (p := ⟨bf, 0, none⟩) (hA _ k3 (.inr (.inr (.inl rfl)))) k3).trans h.x0, h.lf.small, fun hn => ?_⟩
  obtain ⟨b, o, e, hlt, hc⟩ := h.lf.lies hn
  exact ⟨b, o, e, Nat.lt_of_lt_of_le hlt hb.size, fun t ht k hk => (hb.cell (p := ⟨b, o + t * 4 + k, none⟩) (hA _ hlt (.inr (.inr (.inr ⟨hn, o, e⟩)))) hlt).trans (hc t ht k hk)⟩

theorem Cau.lt {w : World} {bl bs bf n cap : Nat} {ao : Option Addr} {P : Nat → Nat → Bool} {K x : Int} {s : ByteArray} (h : Cau w bl bs bf ao n cap P K s x) {k : Nat} (hk : Blk3 bl bs bf ao n k) : k < w.heap.size := by
  rcases hk with rfl | rfl | rfl | ⟨hn, o, e⟩
  · exact lt_of_cell h.l0
  · exact lt_of_cell h.s0
  · exact lt_of_cell h.x0
  · obtain ⟨b, o', e', hlt, _⟩ := h.lf.lies hn
    rw [e'] at e
    cases e
    exact hlt

/-- The three boxes. -/
theorem cau_new (n cap : Nat) (ao : Option Addr) (P : Nat → Nat → Bool) (K x : Int) (s : ByteArray) (w : World) (hl : Lf w ao n P) :
    ∃ w3, w3 = ((w.alloc (.cells #[.slice ao n cap, .int .i64 K] 24)).alloc (.cells #[.string s] 9)).alloc (.cells #[.int .i64 x] 3) ∧ Cau w3 w.heap.size (w.heap.size + 1) (w.heap.size + 1 + 1) ao n cap P K s x ∧ Below w.heap.size w w3 := by
  obtain ⟨w1, b1⟩ := lbox w (.slice ao n cap) (.int .i64 K)
  have b2 : Below w1.heap.size w1 (w1.alloc (.cells #[.string s] 9)) := (Below.refl _ _).alloc (Nat.le_refl _) _
  have b3 : Below (w1.alloc (.cells #[.string s] 9)).heap.size (w1.alloc (.cells #[.string s] 9)) ((w1.alloc (.cells #[.string s] 9)).alloc (.cells #[.int .i64 x] 3)) := (Below.refl _ _).alloc (Nat.le_refl _) _
  have z1 := b1.size
  have z2 : (w1.alloc (.cells #[.string s] 9)).heap.size = w1.heap.size + 1 := World.size_alloc _ _
  have b13 := b2.trans (b3.mono (by omega))
  refine ⟨_, rfl, ?_, ?_⟩
  · rw [← b1.eq]
    refine ⟨(b13.cell (p := ⟨w.heap.size, 0, none⟩) (by show w.heap.size < _; omega)).trans b1.c0, (b13.cell (p := ⟨w.heap.size, 1, none⟩) (by show w.heap.size < _; omega)).trans b1.c1, ?_, ?_, (hl.grow b1.bel).grow b13⟩
    · have h := (Boxed.new w1 9 (.string s)).cell
      rw [z1] at h
      exact (b3.cell (p := ⟨w.heap.size + 1, 0, none⟩) (by show w.heap.size + 1 < _; omega)).trans h
    · have h := (Boxed.new (w1.alloc (.cells #[.string s] 9)) 3 (.int .i64 x)).cell
      rw [z2, z1] at h
      exact h
  · rw [← b1.eq]
    exact b1.bel.trans (b13.mono (by omega))

set_option maxHeartbeats 1000000 in
theorem places_made (n cap : Nat) (ao : Option Addr) (P : Nat → Nat → Bool) (K x : Int) (s : ByteArray) (w : World) (hl : Lf w ao n P) :
    Calls Try.prog 28 #[.agg #[.slice ao n cap, .int .i64 K], .string s, .int .i64 x] w fun e w' => e = .returned (.func (.func 36) #[] #[.pointer (some ⟨w.heap.size, 0, none⟩), .pointer (some ⟨w.heap.size + 1, 0, none⟩), .pointer (some ⟨w.heap.size + 1 + 1, 0, none⟩)]) ∧ Cau w' w.heap.size (w.heap.size + 1) (w.heap.size + 1 + 1) ao n cap P K s x ∧ Below w.heap.size w w' := by
  obtain ⟨w3, e3, hc, hb⟩ := cau_new n cap ao P K x s w hl
  have HC : Hid _ := hc
  have HB : Hid _ := hb
  have E3 : Hid _ := e3
  clear hc hb e3
  go_enter Try.func28, Try.ntmps28
  go_wp2_with fail
  rw [← E3.out]
  go_ret
  exact ⟨rfl, HC.out, HB.out⟩

theorem plc_len (f m : Nat) : (plc f m).length = m - f := by simp [plc]

theorem plc_zero (f m : Nat) (h : m ≤ f) : plc f m = [] := by simp [plc, show m - f = 0 by omega]

theorem plc_part (f m k : Nat) (h : k < m - f) : List.range' f k ++ [f + k] <+: plc f m := by
  have e : List.range' f k ++ [f + k] = List.range' f (k + 1) := by rw [List.range'_concat]; simp
  rw [e]
  exact ⟨List.range' (f + (k + 1)) (m - f - (k + 1)), by
    unfold plc
    rw [List.range'_append_1]
    congr 1
    omega⟩

set_option maxRecDepth 100000 in
set_option maxHeartbeats 2000000 in
theorem places_seq (bl bs bf n cap : Nat) (ao : Option Addr) (P : Nat → Nat → Bool) (K x : Int) (s : ByteArray) (hs : s.size ≤ 1000000) (hx : x ≤ 9223372036854775807) (w : World) (hc : Cau w bl bs bf ao n cap P K s x) :
    SeqM Try.prog 36 #[.pointer (some ⟨bl, 0, none⟩), .pointer (some ⟨bs, 0, none⟩), .pointer (some ⟨bf, 0, none⟩)] enc1 (fun _ => False) (plc x.toNat (stn P n K s.size)) w := fun l J Jx W hW hJ hJx hY h0 => by
  have hC := hc.grow hW
  have HY : Hid _ := hY
  have H0 : Hid _ := h0
  have HJ : Hid (Abid W.heap.size J) := hJ
  have l0 := hC.l0
  have l1 := hC.l1
  have s0 := hC.s0
  have x0 := hC.x0
  have cr : Hid _ := room_any P n cap ao K s hs W hC.lf
  obtain ⟨m, hm⟩ : ∃ m, stn P n K s.size = m := ⟨_, rfl⟩
  have hmle : m ≤ 1000001 := by have := stn_le P n s.size K; omega
  rw [hm] at cr HY ⊢
  obtain ⟨f, hf⟩ : ∃ f, x.toNat = f := ⟨_, rfl⟩
  rw [hf] at HY ⊢
  clear hY hJ hJx hW h0 hC hc hm
  refine (callsIn_wide (n := 9)).1 (callsIn_of_wp Try.func36 rfl trivial ?_ rfl)
  refine wpIn_wide.2 ?_
  simp only [Try.ntmps36, List.size_toArray, List.length_cons, List.length_nil, Nat.reduceAdd, Nat.reduceSub, Array.replicate_succ, Array.replicate_zero, List.push_toArray, List.append_toArray, List.nil_append, List.cons_append]
  go_wp2_with fail
  refine Calls.mono (Hid.out cr) ?_; rintro e W2 ⟨rfl, b2⟩
  have H2 : Hid (J [] (fun _ => False) W2) := HJ.out.fewer (HJ.out.grow H0.out b2) (fun _ h => h.elim)
  have x2 : W2.cell? ⟨bf, 0, none⟩ = some (.int .i64 x) := (b2.cell (p := ⟨bf, 0, none⟩) (lt_of_cell x0)).trans x0
  clear b2 cr l0 l1 s0 x0 H0
  go_wp2_with fail
  all_goals
    rename_i hx0
    refine (wpIn_wide (n := 9)).1 ?_
    gi_loopw [6] (fun p wr => ∃ k : Nat, p = .int .i64 ((f + k : Nat) : Int) ∧ k ≤ m - f ∧ J (List.range' f k) (fun _ => False) wr) (fun p _ => m - (intOf p).toNat)
    case atStart => exact ⟨0, (by first | (rw [← hf]; congr 1; omega) | (congr 1; omega)), Nat.zero_le _, H2.out⟩
    case round =>
      obtain ⟨k, rfl, hk, hJ⟩ := hrel
      by_cases hkm : f + k < m
      · have hkI : ((f + k : Nat) : Int) < (m : Int) := by omega
        obtain ⟨fn, tmps, assign, body, hy, hR⟩ := HY.out (List.range' f k) _ (f + k) wr hJ (fun _ h => h.elim) (plc_part f m k (by omega))
        have hRR : Hid _ := hR
        have e1 : Hid (List.range' f k ++ [f + k] = List.range' f (k + 1)) := by show _ = _; rw [List.range'_concat]; simp
        have HP : Hid _ := plc_part f m k (by omega)
        clear hR
        generalize hq : f + k = q at *
        gi_wp2
        refine RoundIn.mono (RoundIn.anyN (Hid.out hRR)) ?_
        rintro e W3 ⟨_, (⟨rfl, hJ3⟩ | ⟨rfl, hJx3⟩)⟩
        · gi_wp2
          go_roundw
          case rel => exact ⟨k + 1, by rw [← Nat.add_assoc, hq]; go_num, by omega, by rw [← e1.out]; exact hJ3⟩
          case measure => simp [intOf]; omega
        · gi_wp2
          refine bodyPost_ret (results_none rfl _ _ _) rfl ?_
          exact ⟨⟨_, rfl⟩, .inr ⟨_, HP.out, hJx3⟩⟩
      · have hkI : (m : Int) ≤ ((f + k : Nat) : Int) := by omega
        have e2 : Hid (List.range' f k = plc f m) := by show _ = _; unfold plc; congr 1; omega
        generalize hq : f + k = q at *
        gi_wp2
        go_end0
        exact ⟨⟨_, rfl⟩, .inl (by rw [← e2.out]; exact hJ)⟩
end Cls
end Go.Proofs.Ytpogipingefkaaa
