/- Contracts of symb.kindRows, and of the function that it tells: for each kind its elements and its marks, as two new rows. -/
import Derived.Test.YtppmmobmoanagaaDoorSyMk
import Derived.Test.YtppmmobmoanagaaDoorSeqE
import Derived.Test.YtppmmobmoanagaaDoorLfA
import Derived.Test.YtppmmobmoanagaaDoorNvA
namespace Go.Proofs.YtppmmobmoanagaaDoor
open Go.RowKit Res
namespace Cls

/-- What the function has caught: a leaf and a text, each in a box. -/
structure Ck (w : World) (bl bs : Nat) (ao : Option Addr) (n cap : Nat) (P : Nat → Nat → Bool) (K : Int) (s : ByteArray) : Prop where
  l0 : w.cell? ⟨bl, 0, none⟩ = some (.slice ao n cap)
  l1 : w.cell? ⟨bl, 1, none⟩ = some (.int .i64 K)
  s0 : w.cell? ⟨bs, 0, none⟩ = some (.string s)
  lf : Lf w ao n P

theorem Ck.grow {w w' : World} {bl bs n cap : Nat} {ao : Option Addr} {P : Nat → Nat → Bool} {K : Int} {s : ByteArray} (h : Ck w bl bs ao n cap P K s) (hb : Below w.heap.size w w') : Ck w' bl bs ao n cap P K s :=
  ⟨(hb.cell (p := ⟨bl, 0, none⟩) (lt_of_cell h.l0)).trans h.l0, (hb.cell (p := ⟨bl, 1, none⟩) (lt_of_cell h.l0)).trans h.l1, (hb.cell (p := ⟨bs, 0, none⟩) (lt_of_cell h.s0)).trans h.s0, h.lf.grow hb⟩

/-- The blocks in which that lies. -/
def Blk2 (bl bs : Nat) (ao : Option Addr) (n k : Nat) : Prop := k = bl ∨ k = bs ∨ (1 ≤ n ∧ ∃ o, ao = some ⟨k, o, none⟩)

/-- A leaf's row, where its blocks are kept. -/
theorem Lf.kept {A : Nat → Prop} {w w' : World} {ao : Option Addr} {n : Nat} {P : Nat → Nat → Bool} (h : Lf w ao n P) (hb : Fr A w w') (hA : ∀ k, k < w.heap.size → (1 ≤ n ∧ ∃ o, ao = some ⟨k, o, none⟩) → A k) : Lf w' ao n P := by
  refine ⟨h.small, fun hn => ?_⟩
  obtain ⟨b, o, e, hlt, hc⟩ := h.lies hn
  exact ⟨b, o, e, Nat.lt_of_lt_of_le hlt hb.size, fun t ht k hk => (hb.cell (p := ⟨b, o + t * 4 + k, none⟩) (hA _ hlt ⟨hn, o, e⟩) hlt).trans (hc t ht k hk)⟩

theorem Ck.kept {A : Nat → Prop} {w w' : World} {bl bs n cap : Nat} {ao : Option Addr} {P : Nat → Nat → Bool} {K : Int} {s : ByteArray} (h : Ck w bl bs ao n cap P K s) (hb : Fr A w w') (hA : ∀ k, k < w.heap.size → Blk2 bl bs ao n k → A k) : Ck w' bl bs ao n cap P K s := by
  have k1 := lt_of_cell h.l0
  have k2 := lt_of_cell h.s0
  exact ⟨(hb.cell (p := ⟨bl, 0, none⟩) (hA _ k1 (.inl rfl)) k1).trans h.l0, (hb.cell (p := ⟨bl, 1, none⟩) (hA _ k1 (.inl rfl)) k1).trans h.l1, (hb.cell (p := ⟨bs, 0, none⟩) (hA _ k2 (.inr (.inl rfl))) k2).trans h.s0, h.lf.kept hb (fun k hk hh => hA k hk (.inr (.inr hh)))⟩

theorem Ck.lt {w : World} {bl bs n cap : Nat} {ao : Option Addr} {P : Nat → Nat → Bool} {K : Int} {s : ByteArray} (h : Ck w bl bs ao n cap P K s) {k : Nat} (hk : Blk2 bl bs ao n k) : k < w.heap.size := by
  rcases hk with rfl | rfl | ⟨hn, o, e⟩
  · exact lt_of_cell h.l0
  · exact lt_of_cell h.s0
  · obtain ⟨b, o', e', hlt, _⟩ := h.lf.lies hn
    rw [e'] at e
    cases e
    exact hlt

/-- The two boxes. -/
theorem ck_new (n cap : Nat) (ao : Option Addr) (P : Nat → Nat → Bool) (K : Int) (s : ByteArray) (w : World) (hl : Lf w ao n P) :
    ∃ w2, w2 = (w.alloc (.cells #[.slice ao n cap, .int .i64 K] 24)).alloc (.cells #[.string s] 9) ∧ Ck w2 w.heap.size (w.heap.size + 1) ao n cap P K s ∧ Below w.heap.size w w2 := by
  obtain ⟨w1, b1⟩ := lbox w (.slice ao n cap) (.int .i64 K)
  have b2 : Below w1.heap.size w1 (w1.alloc (.cells #[.string s] 9)) := (Below.refl _ _).alloc (Nat.le_refl _) _
  have z1 := b1.size
  refine ⟨_, rfl, ?_, ?_⟩
  · rw [← b1.eq]
    refine ⟨(b2.cell (p := ⟨w.heap.size, 0, none⟩) (by show w.heap.size < _; omega)).trans b1.c0, (b2.cell (p := ⟨w.heap.size, 1, none⟩) (by show w.heap.size < _; omega)).trans b1.c1, ?_, (hl.grow b1.bel).grow b2⟩
    have h := (Boxed.new w1 9 (.string s)).cell
    rw [z1] at h
    exact h
  · rw [← b1.eq]
    exact b1.bel.trans (b2.mono (by omega))

set_option maxHeartbeats 1000000 in
theorem kindRows_made (n cap : Nat) (ao : Option Addr) (P : Nat → Nat → Bool) (K : Int) (s : ByteArray) (w : World) (hl : Lf w ao n P) :
    Calls Tryd.prog 37 #[.agg #[.slice ao n cap, .int .i64 K], .string s] w fun e w' => e = .returned (.func (.func 58) #[] #[.pointer (some ⟨w.heap.size, 0, none⟩), .pointer (some ⟨w.heap.size + 1, 0, none⟩)]) ∧ Ck w' w.heap.size (w.heap.size + 1) ao n cap P K s ∧ Below w.heap.size w w' := by
  obtain ⟨w2, e2, hc, hb⟩ := ck_new n cap ao P K s w hl
  have HC : Hid _ := hc
  have HB : Hid _ := hb
  have E2 : Hid _ := e2
  clear hc hb e2
  go_enter Tryd.func37, Tryd.ntmps37
  go_wp2_with fail
  rw [← E2.out]
  go_ret
  exact ⟨rfl, HC.out, HB.out⟩

/-- What is handed over for a kind. -/
def Enk (P : Nat → Nat → Bool) (n : Nat) (s : ByteArray) (c : Nat → Bool) (vs : Array Value) (W : World) : Prop :=
  ∃ g h, vs = #[.slice (some ⟨g, 0, none⟩) n n, .slice (some ⟨h, 0, none⟩) s.size s.size] ∧ Fam W g 0 n (kp P c) ∧ Fam W h 0 s.size (km s c)

theorem fam_record {W : World} {l g o n : Nat} {F : Nat → Int} {r r' : Loop} (hl : W.heap[l]? = some (.loop r)) (h : Fam W g o n F) : Fam (W.putObj l (.loop r')) g o n F := fun t ht => by
  have hc := h t ht
  have hne : g ≠ l := fun e => by
    subst e
    unfold World.cell? at hc
    rw [hl] at hc
    cases hc
  rw [← hc]
  exact World.cell?_of_block (World.putObj_heap_other hne)

theorem enk_abid (P : Nat → Nat → Bool) (n : Nat) (s : ByteArray) : EncAbid (Enk P n s) := fun _ _ _ _ _ _ hl ⟨g, h, e, h1, h2⟩ => ⟨g, h, e, fam_record hl h1, fam_record hl h2⟩

/-- What the region that hands over reads. -/
def Skr (bl bs g : Nat) (ao : Option Addr) (n cap : Nat) (K : Int) (s : ByteArray) (c : Nat → Bool) (v : World) : Prop :=
  (v.cell? ⟨bl, 0, none⟩ = some (.slice ao n cap) ∧ v.cell? ⟨bl, 1, none⟩ = some (.int .i64 K)) ∧ v.cell? ⟨bs, 0, none⟩ = some (.string s) ∧ v.cell? ⟨g, 0, none⟩ = some (.int .u64 ((wd c 0 : Nat) : Int)) ∧ v.cell? ⟨g, 1, none⟩ = some (.int .u64 ((wd c 1 : Nat) : Int)) ∧ v.cell? ⟨g, 2, none⟩ = some (.int .u64 ((wd c 2 : Nat) : Int)) ∧ v.cell? ⟨g, 3, none⟩ = some (.int .u64 ((wd c 3 : Nat) : Int))

theorem Skr.of {bl bs g n cap : Nat} {ao : Option Addr} {P : Nat → Nat → Bool} {K : Int} {s : ByteArray} {c : Nat → Bool} {v : World} (h : Ck v bl bs ao n cap P K s) (f : Fam v g 0 4 (wi c)) : Skr bl bs g ao n cap K s c v := by
  obtain ⟨a0, a1, a2, a3⟩ := c4 f
  exact ⟨⟨h.l0, h.l1⟩, h.s0, a0, a1, a2, a3⟩

theorem kinds_le (P : Nat → Nat → Bool) (n : Nat) : (kd P n).length ≤ n := kd_len P n

theorem take_succ_kd (P : Nat → Nat → Bool) (n k : Nat) (h : k < (kd P n).length) : (kd P n).take k ++ [at' (kd P n) k] = (kd P n).take (k + 1) := by
  rw [List.take_add_one, List.getElem?_eq_getElem h]
  unfold at'
  simp [h]

set_option maxRecDepth 100000 in
set_option maxHeartbeats 4000000 in
theorem kindRows_seq (bl bs n cap : Nat) (ao : Option Addr) (P : Nat → Nat → Bool) (K : Int) (s : ByteArray) (hs : s.size ≤ 1000000) (hn : n ≤ 1000000) (w : World) (hc : Ck w bl bs ao n cap P K s) :
    SeqE Tryd.prog 58 #[.pointer (some ⟨bl, 0, none⟩), .pointer (some ⟨bs, 0, none⟩)] (Enk P n s) (Blk2 bl bs ao n) (kd P n) w := fun l J Jx W hW hJ hJx hY h0 => by
  have hC := hc.grow hW
  have HY : Hid _ := hY
  have H0 : Hid _ := h0
  have HJ : Hid (Abid W.heap.size J) := hJ
  have HJx : Hid (Abid W.heap.size Jx) := hJx
  have HCk : Hid _ := hC
  have l0 := hC.l0
  have l1 := hC.l1
  have cr : Hid _ := kinds_core P n cap ao K W hC.lf
  have hkl := kinds_le P n
  have HTS : Hid _ := take_succ_kd P n
  have HTA : Hid ((kd P n).take (kd P n).length = kd P n) := List.take_length
  have HPX : Hid (∀ k, k < (kd P n).length → (kd P n).take k ++ [at' (kd P n) k] <+: kd P n) := fun k hk => by rw [take_succ_kd P n k hk]; exact List.take_prefix _ _
  have HT0 : Hid ((kd P n).take 0 = []) := List.take_zero
  obtain ⟨L, hL⟩ : ∃ L, kd P n = L := ⟨_, rfl⟩
  rw [hL] at cr HY hkl HTS HTA HPX HT0 ⊢
  obtain ⟨m, hm⟩ : ∃ m, L.length = m := ⟨_, rfl⟩
  rw [hm] at cr hkl HTS HTA HPX
  clear hY hJ hJx hW h0 hC hc hm hL
  refine (callsIn_wide (n := 9)).1 (callsIn_of_wp Tryd.func58 rfl trivial ?_ rfl)
  refine wpIn_wide.2 ?_
  simp only [Tryd.ntmps58, List.size_toArray, List.length_cons, List.length_nil, Nat.reduceAdd, Nat.reduceSub, Array.replicate_succ, Array.replicate_zero, List.push_toArray, List.append_toArray, List.nil_append, List.cons_append]
  go_wp2_with fail
  refine Calls.mono (Hid.out cr) ?_; rintro e W2 ⟨⟨bo, d, rfl, lk, hnew⟩, b2⟩
  have H2 : Hid (J [] (fun k => Blk2 bl bs ao n k ∨ (W.heap.size ≤ k ∧ k < W2.heap.size)) W2) := HJ.out.grow H0.out b2
  have C2 : Hid (Ck W2 bl bs ao n cap P K s) := HCk.out.grow b2
  have LK2 : Hid (Lf W2 bo m (at' L)) := lk
  have HN2 : Hid (∀ k, (1 ≤ m ∧ ∃ o, bo = some ⟨k, o, none⟩) → W.heap.size ≤ k ∧ k < W2.heap.size) := fun k ⟨h1, o, e⟩ => by
    obtain ⟨g, e2, hg⟩ := hnew h1
    obtain ⟨b, o', e3, hlt, _⟩ := lk.lies h1
    rw [e2] at e e3
    cases e
    cases e3
    exact ⟨hg, hlt⟩
  have HB2 : Hid (Below W.heap.size W W2) := b2
  clear b2 cr l0 l1 H0 lk hnew
  go_wp2_with fail
  refine (wpIn_wide (n := 9)).1 ?_
  obtain ⟨M0, hM0⟩ : ∃ M0 : Nat → Prop, (fun k => Blk2 bl bs ao n k ∨ (W.heap.size ≤ k ∧ k < W2.heap.size)) = M0 := ⟨_, rfl⟩
  have HM0 : Hid _ := hM0
  rw [hM0] at H2
  have HMa : Hid (∀ k, Blk2 bl bs ao n k → M0 k) := fun k h => by rw [← hM0]; exact .inl h
  have HMb : Hid (∀ k, (1 ≤ m ∧ ∃ o, bo = some ⟨k, o, none⟩) → M0 k) := fun k h => by rw [← hM0]; exact .inr (HN2.out k h)
  have HMc : Hid (∀ k, M0 k → k < W2.heap.size) := fun k h => by
    rw [← hM0] at h
    rcases h with h | h
    · exact C2.out.lt h
    · exact h.2
  clear hM0
  gi_loopw [9] (fun p wr => ∃ k : Nat, p = .int .i64 (k : Int) ∧ k ≤ m ∧ J (L.take k) M0 wr ∧ Fr M0 W2 wr) (fun p _ => m - (intOf p).toNat)
  case atStart => exact ⟨0, rfl, Nat.zero_le _, by rw [HT0.out]; exact H2.out, Fr.refl _ _⟩
  case round =>
    obtain ⟨k, rfl, hk, hJ, hF⟩ := hrel
    have HJr : Hid _ := hJ
    have HFr : Hid (Fr M0 W2 wr) := hF
    have CR : Hid (Ck wr bl bs ao n cap P K s) := C2.out.kept hF (fun j _ hB => HMa.out j hB)
    have LR : Lf wr bo m (at' L) := LK2.out.kept hF (fun j _ hB => HMb.out j hB)
    have hMw : Hid (∀ k, M0 k → k < wr.heap.size) := fun k h => Nat.lt_of_lt_of_le (HMc.out k h) hF.size
    clear hJ hF
    by_cases hkm : k < m
    · have hkI : (k : Int) < (m : Int) := by omega
      obtain ⟨b, o, rfl, hb, hC⟩ := LR.lies (by omega)
      obtain ⟨c0, c1, c2, c3⟩ := hC.four hkm
      have HTk : Hid _ := HTS.out k hkm
      have HPk : Hid _ := HPX.out k hkm
      generalize at' L k = c at *
      obtain ⟨w3, b3⟩ := box wr c
      have E3 : Hid _ := b3.eq
      have HB3 : Hid (Below wr.heap.size wr w3) := b3.bel
      have F3 : Hid (Fam w3 wr.heap.size 0 4 (wi c)) := b3.fam
      have s3 : wr.heap.size < w3.heap.size := by have := b3.size; omega
      clear hC b3 LR
      gi_wp2_with (first | rw [← E3.out])
      have C3 : Ck w3.drew bl bs ao n cap P K s := CR.out.grow HB3.out.drew
      have F3' : Fam w3.drew wr.heap.size 0 4 (wi c) := Fam.drew F3.out
      have hS := Skr.of C3 F3'
      refine region_any (S := Skr bl bs wr.heap.size ao n cap K s c) (by kernel_rfl) ?_
      refine AnyS.take (i := 0) (v := .func (.yield l) #[] #[]) rfl rfl rfl (fun _ _ => rfl) rfl (by kernel_rfl) (by kernel_rfl) (by kernel_rfl) (fun _ _ _ h => h) (fun a' w' h _ => by simp only [execOp]; rw [h]; rfl) hS ?_
      try simp only [Act.put, List.setIfInBounds_toArray, List.set_cons_zero, List.set_cons_succ]
      refine AnyS.take (i := 1) (v := .agg #[.slice ao n cap, .int .i64 K]) rfl rfl rfl (fun _ _ => rfl) rfl (by kernel_rfl) (by kernel_rfl) (by kernel_rfl) (fun _ _ _ h => h) (fun a' w' h ⟨⟨q0, q1⟩, _⟩ => by simp only [execOp]; rw [h]; go_simp) hS ?_
      try simp only [Act.put, List.setIfInBounds_toArray, List.set_cons_zero, List.set_cons_succ]
      refine AnyS.take (i := 2) (v := .agg #[.int .u64 ((wd (c) 0 : Nat) : Int), .int .u64 ((wd (c) 1 : Nat) : Int), .int .u64 ((wd (c) 2 : Nat) : Int), .int .u64 ((wd (c) 3 : Nat) : Int)]) rfl rfl rfl (fun _ _ => rfl) rfl (by kernel_rfl) (by kernel_rfl) (by kernel_rfl) (fun _ _ _ h => h) (fun a' w' h ⟨_, _, q0, q1, q2, q3⟩ => by simp only [execOp]; rw [h]; go_simp) hS ?_
      try simp only [Act.put, List.setIfInBounds_toArray, List.set_cons_zero, List.set_cons_succ]
      refine AnyS.take (i := 4) (v := .string s) rfl rfl rfl (fun _ _ => rfl) rfl (by kernel_rfl) (by kernel_rfl) (by kernel_rfl) (fun _ _ _ h => h) (fun a' w' h ⟨_, q0, _⟩ => by simp only [execOp]; rw [h]; go_simp) hS ?_
      try simp only [Act.put, List.setIfInBounds_toArray, List.set_cons_zero, List.set_cons_succ]
      refine AnyS.take (i := 5) (v := .agg #[.int .u64 ((wd (c) 0 : Nat) : Int), .int .u64 ((wd (c) 1 : Nat) : Int), .int .u64 ((wd (c) 2 : Nat) : Int), .int .u64 ((wd (c) 3 : Nat) : Int)]) rfl rfl rfl (fun _ _ => rfl) rfl (by kernel_rfl) (by kernel_rfl) (by kernel_rfl) (fun _ _ _ h => h) (fun a' w' h ⟨_, _, q0, q1, q2, q3⟩ => by simp only [execOp]; rw [h]; go_simp) hS ?_
      try simp only [Act.put, List.setIfInBounds_toArray, List.set_cons_zero, List.set_cons_succ]
      refine AnyS.step (i := 3) rfl (by kernel_rfl) rfl (fun K1 hK1 => ?_)
      go_simp
      refine ⟨trivial, callsIn_wide.2 (Calls.mono (places11_any P c n cap ao K hn w3.drew C3.lf) ?_)⟩
      rintro e w4 ⟨g, rfl, f4, _, lg4, b4⟩
      have HB4 : Below wr.heap.size wr w4 := HB3.out.drew.trans (b4.mono HB3.out.size)
      have C4 := C3.grow b4
      have F4 : Fam w4 wr.heap.size 0 4 (wi c) := F3'.below b4 s3
      refine hK1.out _ _ (Skr.of C4 F4) ?_
      clear hK1 K1
      try simp only [Act.put, List.setIfInBounds_toArray, List.set_cons_zero, List.set_cons_succ]
      refine AnyS.step (i := 6) rfl (by kernel_rfl) rfl (fun K1 hK1 => ?_)
      go_simp
      refine ⟨trivial, callsIn_wide.2 (Calls.mono (marks_any c s hs w4) ?_)⟩
      rintro e w5 ⟨h, rfl, f5, _, lh5, b5⟩
      have HB5 : Below wr.heap.size wr w5 := HB4.trans (b5.mono HB4.size)
      have C5 := C4.grow b5
      have F5 : Fam w5 wr.heap.size 0 4 (wi c) := F4.below b5 (Nat.lt_of_lt_of_le s3 b4.size)
      have hE : Enk P n s c #[.slice (some ⟨g, 0, none⟩) n n, .slice (some ⟨h, 0, none⟩) s.size s.size] w5 := ⟨g, h, rfl, f4.below b5 lg4, f5⟩
      have s5 : wr.heap.size < w5.heap.size := Nat.lt_of_lt_of_le s3 (Nat.le_trans b4.size b5.size)
      have hJ5 := HJ.out.grow HJr.out HB5
      obtain ⟨M1, hM1⟩ : ∃ M1 : Nat → Prop, (fun k => M0 k ∨ (wr.heap.size ≤ k ∧ k < w5.heap.size)) = M1 := ⟨_, rfl⟩
      rw [hM1] at hJ5
      have HMd : Hid (∀ k, M0 k → M1 k) := fun k h => by rw [← hM1]; exact .inl h
      have HMe : Hid (M1 wr.heap.size) := by show M1 _; rw [← hM1]; exact .inr ⟨Nat.le_refl _, s5⟩
      have hM5 : ∀ k, M1 k → k < w5.heap.size := fun k h => by
        rw [← hM1] at h
        rcases h with h | h
        · exact Nat.lt_of_lt_of_le (hMw.out k h) HB5.size
        · exact h.2
      obtain ⟨fn, tmps, assign, body, hy, hR⟩ := HY.out (L.take k) M1 c _ w5 hJ5 hM5 HPk.out hE
      have hRR : Hid _ := hR
      have HS5 : Hid _ := Skr.of C5 F5
      have HC5 : Hid _ := C5
      have HF5 : Hid (Fam w5 wr.heap.size 0 4 (wi c)) := F5
      have HB5' : Hid (Below wr.heap.size wr w5) := HB5
      refine hK1.out _ _ HS5.out ?_
      clear hK1 K1 hR hS C3 F3' C4 F4 C5 F5 HB4 HB5 b4 b5 f4 f5 hE hJ5 hM5 hM1
      try simp only [Act.put, List.setIfInBounds_toArray, List.set_cons_zero, List.set_cons_succ]
      refine AnyS.step (i := 7) rfl (by kernel_rfl) rfl (fun K1 hK1 => ?_)
      go_simp
      refine RoundIn.mono (RoundIn.anyN (Hid.out hRR)) ?_
      rintro e W3 ⟨hfr, hcase⟩
      have C6 : Ck W3 bl bs ao n cap P K s := HC5.out.kept hfr (fun j _ hB => HMd.out j (HMa.out j hB))
      have F6 : Fam W3 wr.heap.size 0 4 (wi c) := fun t ht => (hfr.cell (p := ⟨wr.heap.size, 0 + t, none⟩) HMe.out s5).trans ((show Fam w5 wr.heap.size 0 4 (wi c) from HF5.out) t ht)
      have hS6 := Skr.of C6 F6
      have HF0 : Hid (Fr M0 W2 W3) := HFr.out.trans ((Fr.of_below HB5'.out (fun _ hk _ => hk)).trans (hfr.mono (fun k _ h => HMd.out k h)))
      rcases hcase with ⟨rfl, hJ3⟩ | ⟨rfl, hJx3⟩
      · have HJ3 : Hid (J (L.take (k + 1)) M0 W3) := by show J _ _ _; rw [← HTk.out]; exact HJ.out.fewer hJ3 (fun k h => HMd.out k h)
        refine hK1.out _ _ hS6 ?_
        clear hK1 K1 hJ3 hfr C6 F6 hRR hy
        try simp only [Act.put, List.setIfInBounds_toArray, List.set_cons_zero, List.set_cons_succ]
        refine AnyS.take (i := 8) (v := .bool false) rfl rfl rfl (fun _ _ => rfl) rfl (by kernel_rfl) (by kernel_rfl) (by kernel_rfl) (fun _ _ _ h => h) (fun a' w' h _ => by simp only [execOp]; rw [h]; go_simp) hS6 ?_
        try simp only [Act.put, List.setIfInBounds_toArray, List.set_cons_zero, List.set_cons_succ]
        refine AnyS.done (by kernel_rfl) ?_
        clear hS6
        gi_wp2
        go_roundw
        case rel => exact ⟨k + 1, by go_num, by omega, HJ3.out, HF0.out⟩
        case measure => simp [intOf]; omega
      · have HJ3 : Hid (Jx (L.take k ++ [c]) (Blk2 bl bs ao n) W3) := HJx.out.fewer hJx3 (fun k h => HMd.out k (HMa.out k h))
        refine hK1.out _ _ hS6 ?_
        clear hK1 K1 hJx3 hfr C6 F6 hRR hy
        try simp only [Act.put, List.setIfInBounds_toArray, List.set_cons_zero, List.set_cons_succ]
        refine AnyS.take (i := 8) (v := .bool true) rfl rfl rfl (fun _ _ => rfl) rfl (by kernel_rfl) (by kernel_rfl) (by kernel_rfl) (fun _ _ _ h => h) (fun a' w' h _ => by simp only [execOp]; rw [h]; go_simp) hS6 ?_
        try simp only [Act.put, List.setIfInBounds_toArray, List.set_cons_zero, List.set_cons_succ]
        refine AnyS.done (by kernel_rfl) ?_
        clear hS6
        gi_wp2
        refine bodyPost_ret (results_none rfl _ _ _) rfl ?_
        exact ⟨⟨_, rfl⟩, .inr ⟨_, HPk.out, HJ3.out⟩⟩
    · obtain rfl : k = m := by omega
      gi_wp2
      go_end0
      exact ⟨⟨_, rfl⟩, .inl (by have := HJ.out.fewer HJr.out (M' := Blk2 bl bs ao n) (fun k h => HMa.out k h); rw [HTA.out] at this; exact this)⟩

end Cls
end Go.Proofs.YtppmmobmoanagaaDoor
