/- Contracts of naive.found, and of the function that it tells: the places at which a leaf misses few enough. -/
import Derived.Test.YtpogipingefkaaaNvItr
namespace Go.Proofs.Ytpogipingefkaaa
open Go.RowKit Go.Shelf
namespace Cls

theorem mis_mono (P : Nat → Nat → Bool) (s : ByteArray) (i : Nat) {k n : Nat} (h : k ≤ n) : mis P s i k ≤ mis P s i n := by
  induction n with
  | zero => rw [show k = 0 by omega]; omega
  | succ n ih =>
    by_cases e : k = n + 1
    · rw [e]; omega
    · rw [mis_succ]; have := ih (by omega); omega

/-- Those of a row of places at which few enough are missed. -/
def flt (P : Nat → Nat → Bool) (n : Nat) (K : Int) (s : ByteArray) (L : List Nat) : List Nat := L.filter fun i => decide ((mis P s i n : Int) ≤ K)

theorem flt_yes {P : Nat → Nat → Bool} {n : Nat} {K : Int} {s : ByteArray} {L : List Nat} {x : Nat} (h : (mis P s x n : Int) ≤ K) : flt P n K s (L ++ [x]) = flt P n K s L ++ [x] := by
  unfold flt
  rw [List.filter_append]
  simp [h]

theorem flt_no {P : Nat → Nat → Bool} {n : Nat} {K : Int} {s : ByteArray} {L : List Nat} {x : Nat} (h : ¬ (mis P s x n : Int) ≤ K) : flt P n K s (L ++ [x]) = flt P n K s L := by
  unfold flt
  rw [List.filter_append]
  simp [h]

theorem flt_part {P : Nat → Nat → Bool} {n : Nat} {K : Int} {s : ByteArray} {L M : List Nat} (h : L <+: M) : flt P n K s L <+: flt P n K s M := List.IsPrefix.filter _ h

theorem plc_mem {f m x : Nat} {pre : List Nat} (h : pre ++ [x] <+: plc f m) : x < m := by
  have hx : x ∈ plc f m := h.subset (by simp)
  simp [plc] at hx
  omega

set_option maxHeartbeats 1000000 in
theorem found_made (n cap : Nat) (ao : Option Addr) (P : Nat → Nat → Bool) (K x : Int) (s : ByteArray) (w : World) (hl : Lf w ao n P) :
    Calls Try.prog 29 #[.agg #[.slice ao n cap, .int .i64 K], .string s, .int .i64 x] w fun e w' => e = .returned (.func (.func 37) #[] #[.pointer (some ⟨w.heap.size, 0, none⟩), .pointer (some ⟨w.heap.size + 1, 0, none⟩), .pointer (some ⟨w.heap.size + 1 + 1, 0, none⟩)]) ∧ Cau w' w.heap.size (w.heap.size + 1) (w.heap.size + 1 + 1) ao n cap P K s x ∧ Below w.heap.size w w' := by
  obtain ⟨w3, e3, hc, hb⟩ := cau_new n cap ao P K x s w hl
  have HC : Hid _ := hc
  have HB : Hid _ := hb
  have E3 : Hid _ := e3
  clear hc hb e3
  go_enter Try.func29, Try.ntmps29
  go_wp2_with fail
  rw [← E3.out]
  go_ret
  exact ⟨rfl, HC.out, HB.out⟩

set_option maxRecDepth 100000 in
set_option maxHeartbeats 2000000 in
theorem found_seq (bl bs bf n cap : Nat) (ao : Option Addr) (P : Nat → Nat → Bool) (K x : Int) (s : ByteArray) (hs : s.size ≤ 1000000) (hx : x ≤ 9223372036854775807) (w : World) (hc : Cau w bl bs bf ao n cap P K s x) :
    SeqM Try.prog 37 #[.pointer (some ⟨bl, 0, none⟩), .pointer (some ⟨bs, 0, none⟩), .pointer (some ⟨bf, 0, none⟩)] enc1 (Blk3 bl bs bf ao n) (flt P n K s (plc x.toNat (stn P n K s.size))) w := fun l J Jx W hW hJ hJx hY h0 => by
  have hC := hc.grow hW
  have HY : Hid _ := hY
  have H0 : Hid _ := h0
  have HJ : Hid (Abid W.heap.size J) := hJ
  have HJx : Hid (Abid W.heap.size Jx) := hJx
  -- the box of yield
  obtain ⟨W1, e1⟩ : ∃ W1, W1 = W.alloc (.cells #[.func (.yield l) #[] #[]] 53) := ⟨_, rfl⟩
  have E1 : Hid _ := e1
  have b1 : Below W.heap.size W W1 := by rw [e1]; exact (Below.refl _ _).alloc (Nat.le_refl _) _
  have y1 : W1.cell? ⟨W.heap.size, 0, none⟩ = some (.func (.yield l) #[] #[]) := by rw [e1]; exact (Boxed.new W _ _).cell
  have z1 : Hid (W1.heap.size = W.heap.size + 1) := by show _ = _; rw [e1]; exact World.size_alloc _ _
  have C1 := hC.grow b1
  have l0 := C1.l0
  have l1 := C1.l1
  have s0 := C1.s0
  have x0 := C1.x0
  have cp : Hid _ := places_made n cap ao P K x s W1 C1.lf
  have HC1 : Hid _ := C1
  have B1 : Hid _ := b1
  clear hY hJ hJx hW h0 hC hc e1 b1 C1
  refine (callsIn_wide (n := 9)).1 (callsIn_of_wp_marks Try.func37 rfl trivial ?_ rfl)
  refine wpIn_wide.2 ?_
  simp only [Try.ntmps37, List.size_toArray, List.length_cons, List.length_nil, Nat.reduceAdd, Nat.reduceSub, Array.replicate_succ, Array.replicate_zero, List.push_toArray, List.append_toArray, List.nil_append, List.cons_append]
  go_wp2_with (first | rw [← E1.out])
  go_step3
  go_wp2_with fail
  go_step3
  go_wp2_with fail
  refine Calls.mono (Hid.out cp) ?_; rintro e W2 ⟨rfl, c2, b2⟩
  have C2 := HC1.out.grow b2
  have y2 : W2.cell? ⟨W.heap.size, 0, none⟩ = some (.func (.yield l) #[] #[]) := (b2.cell (p := ⟨W.heap.size, 0, none⟩) (by show W.heap.size < _; have := z1.out; omega)).trans y1
  have b02 : Below W.heap.size W W2 := B1.out.trans (b2.mono B1.out.size)
  have j2 : J [] (fun k => k = W.heap.size ∨ Blk3 bl bs bf ao n k) W2 := HJ.out [] _ _ W W2 H0.out (Fr.of_below b02 (fun _ hk _ => hk)) (fun k h => h.elim (fun e => .inr (by have := b02.size; have := z1.out; have := b2.size; omega)) .inl)
  have hseq := places_seq _ _ _ n cap ao P K x s hs hx W2 c2
  have z2 : W.heap.size < W2.heap.size := by have := z1.out; have := b2.size; omega
  have HB2 : Hid _ := b02
  clear y1 l0 l1 s0 x0 cp E1 H0 b2 b02
  go_wp2_with fail
  refine (wpIn_wide (n := 9)).1 ?_
  obtain ⟨m, hm⟩ : ∃ m, stn P n K s.size = m := ⟨_, rfl⟩
  have hst : Hid (∀ i, i < m → rgt P n K = true ∧ i + n ≤ s.size) := fun i hi => stn_lt.1 (by rw [hm]; exact hi)
  obtain ⟨f, hf⟩ : ∃ f, x.toNat = f := ⟨_, rfl⟩
  rw [hm, hf] at HY hseq
  refine' wp_seq (gf := 36) rfl (enters_of Try.func36 (by kernel_rfl) rfl) hseq (fun _ => rfl) (fun _ h => h.elim)
    (fun pre M V => J (flt P n K s pre) (fun k => M k ∨ k = W.heap.size ∨ Blk3 bl bs bf ao n k) V ∧ V.cell? ⟨W.heap.size, 0, none⟩ = some (.func (.yield l) #[] #[]) ∧ Cau V bl bs bf ao n cap P K s x)
    (fun c pre M V => c = .ret ∧ Jx (flt P n K s pre) (fun k => M k ∨ k = W.heap.size ∨ Blk3 bl bs bf ao n k) V)
    ?abid ?abidx ⟨?start, y2, C2⟩
    (fun i => { tmps := #[.func (.yield l) #[] #[], .pointer (some ⟨bl, 0, none⟩), .pointer (some ⟨bs, 0, none⟩), .pointer (some ⟨bf, 0, none⟩), .pointer (some ⟨W.heap.size, 0, none⟩), .int .i64 (i : Int), undef, undef, undef, .agg #[.slice ao n cap, .int .i64 K], .string s, .int .i64 x, .func (.func 36) #[] #[.pointer (some ⟨W1.heap.size, 0, none⟩), .pointer (some ⟨W1.heap.size + 1, 0, none⟩), .pointer (some ⟨W1.heap.size + 1 + 1, 0, none⟩)], .int .i64 (i : Int), undef, undef, undef, undef, undef, undef, undef, undef, undef, undef, undef, undef, undef, undef, undef, undef, undef, undef, undef, undef, undef, undef, undef, undef, undef, undef], defers := [] }) ?assign ?body ?done ?stop
  case abid =>
    rintro pre M M' V V' ⟨hj, hy, hc⟩ hf hM
    refine ⟨HJ.out _ _ _ V V' hj (hf.mono fun k _ h hM => ?_) (fun k h => ?_), (hf.cell (p := ⟨W.heap.size, 0, none⟩) (fun _ => z2) (lt_of_cell hy)).trans hy, hc.kept hf (fun k hk hB _ => Nat.lt_of_lt_of_le ?_ (Nat.le_refl _))⟩
    · have := h (.inl hM); have := HB2.out.size; omega
    · rcases h with h | h
      · exact (hM k h).imp .inl id
      · exact .inl (.inr h)
    · exact C2.lt hB
  case abidx =>
    rintro c pre M M' V V' ⟨hj, hx⟩ hf hM
    refine ⟨hj, HJx.out _ _ _ V V' hx (hf.mono fun k _ h hM => ?_) (fun k h => ?_)⟩
    · have := h (.inl hM); have := HB2.out.size; omega
    · rcases h with h | h
      · exact (hM k h).imp .inl id
      · exact .inl (.inr h)
  case start => exact HJ.out.fewer j2 (fun k h => h.elim (fun h => h.elim) id)
  case assign =>
    intro l' x' V' K' hK
    clear hseq y2 C2 j2 HY hst HJ HJx HB2 c2 HC1 B1 z1
    gi_wp2
    exact hK
  case stop =>
    rintro D c pre V hD hp ⟨rfl, hx⟩ hK
    have HK : Hid _ := hK
    have HX : Hid _ := hx
    clear hseq y2 C2 j2 HY hst HC1 c2 hK hx
    gi_wp2
    refine ⟨by simp, .inl ⟨_, _, rfl, run_takeDeferred HK.out, ?_⟩⟩
    have q := HJx.out.put (.deferred none) HX.out (.inl (.inr rfl)) (by have := HB2.out.size; omega)
    exact ⟨_, results_none rfl _ _ _, ⟨_, rfl⟩, .inr ⟨_, by rw [hm, hf]; exact flt_part hp, HJx.out.fewer q (fun k h => .inr (.inr h))⟩⟩
  case done =>
    rintro D V hD ⟨hj, _, _⟩ hK
    have HK : Hid _ := hK
    have HX : Hid _ := hj
    clear hseq y2 C2 j2 HY hst HC1 c2 hK hj
    gi_wp2
    refine ⟨by simp, .inl ⟨_, _, rfl, run_takeDeferred HK.out, ?_⟩⟩
    have q := HJ.out.put (.deferred none) HX.out (.inl (.inr rfl)) (by have := HB2.out.size; omega)
    exact ⟨_, results_none rfl _ _ _, ⟨_, rfl⟩, .inl (by rw [hm, hf]; exact HJ.out.fewer q (fun k h => .inr (.inr h)))⟩
  case body =>
    rintro lp pre M i V ⟨hj, hy, hc⟩ hMV hp
    have HMV : Hid _ := hMV
    clear hMV
    obtain ⟨hr, hi⟩ := hst.out i (plc_mem hp)
    obtain ⟨_, hn64, hK0, hK64⟩ := rgt_len hr
    have l0 := hc.l0
    have HP : Hid _ := hp
    have HC : Hid _ := hc
    have Hj : Hid _ := hj
    have HYY : Hid (V.cell? ⟨W.heap.size, 0, none⟩ = some (.func (.yield l) #[] #[])) := hy
    have hm0 : Hid _ := mis_zero P s i
    clear hseq y2 C2 j2 hst HC1 c2 hj hc hp hr hy
    dsimp only
    gi_wp2
    gi_loopw [6, 17] (fun vm vk wr => Below V.heap.size V wr ∧ ∃ k : Nat, k ≤ n ∧ vk = .int .i64 k ∧ vm = .int .i64 ((mis P s i k : Nat) : Int) ∧ (mis P s i k : Int) ≤ K) (fun _ vk _ => n - (intOf vk).toNat)
    case atStart => exact ⟨Below.refl _ _, 0, Nat.zero_le _, rfl, by rw [hm0.out]; rfl, by rw [hm0.out]; exact hK0⟩
    case round =>
      obtain ⟨hbel, k, hk, rfl, rfl, hle⟩ := hrel
      have HB : Hid _ := hbel
      have HCr : Hid (Cau wr bl bs bf ao n cap P K s x) := HC.out.grow hbel
      clear hbel
      by_cases hkn : k < n
      · obtain ⟨b, o, ea, hb, hC⟩ := HCr.out.lf.lies (by omega)
        subst ea
        obtain ⟨c0, c1, c2, c3⟩ := hC.four hkn
        have hkI : (k : Int) < (n : Int) := by omega
        obtain ⟨w2, b2⟩ := box wr (P k)
        have E2 : Hid _ := b2.eq
        have HB2' : Hid (Below V.heap.size V w2) := HB.out.trans (b2.bel.mono HB.out.size)
        have F2 : Hid (Fam w2 wr.heap.size 0 4 (wi (P k))) := b2.fam
        have s2 : wr.heap.size < w2.heap.size := by have := b2.size; omega
        have C2 := HCr.out.grow b2.bel
        obtain ⟨a0, a1, a2, a3⟩ := c4 b2.fam
        have hbt := byt_lt s (i + k)
        have hik : i + k < s.size := by omega
        obtain ⟨q, hq⟩ : ∃ q, i + k = q := ⟨_, rfl⟩
        have hqI : (i : Int) + (k : Int) = (q : Int) := by omega
        rw [hq] at hik hbt
        have hwq : IntKind.i64.wrap (q : Int) = (q : Int) := by rw [IntKind.wrap_i64]; omega
        have hwr : IntKind.i64.wrap ((i : Int) + (k : Int)) = (q : Int) := by rw [hqI]; exact hwq
        have hi1 : (q : Int) < (s.size : Int) := by omega
        have hidx := idx_str s q hik
        have hcc : Hid _ := fun v => has_any (P k) (byt s q) hbt v
        have hsu : Hid _ := mis_succ P s i k
        rw [hq] at hsu
        have hle2 := mis_le P s i k
        clear hC b2
        gi_wp2_with (first | rw [← E2.out])
        rename_i Ka hKa
        refine region_round (S := fun v => v.cell? ⟨wr.heap.size, 0, none⟩ = some (.int .u64 ((wd (P k) 0 : Nat) : Int)) ∧ v.cell? ⟨wr.heap.size, 1, none⟩ = some (.int .u64 ((wd (P k) 1 : Nat) : Int)) ∧ v.cell? ⟨wr.heap.size, 2, none⟩ = some (.int .u64 ((wd (P k) 2 : Nat) : Int)) ∧ v.cell? ⟨wr.heap.size, 3, none⟩ = some (.int .u64 ((wd (P k) 3 : Nat) : Int)) ∧ v.cell? ⟨bs, 0, none⟩ = some (.string s)) (by kernel_rfl) (by kernel_rfl) (fun ⟨_, _, h⟩ => h) ?_
        have hH : (fun v : World => v.cell? ⟨wr.heap.size, 0, none⟩ = some (.int .u64 ((wd (P k) 0 : Nat) : Int)) ∧ v.cell? ⟨wr.heap.size, 1, none⟩ = some (.int .u64 ((wd (P k) 1 : Nat) : Int)) ∧ v.cell? ⟨wr.heap.size, 2, none⟩ = some (.int .u64 ((wd (P k) 2 : Nat) : Int)) ∧ v.cell? ⟨wr.heap.size, 3, none⟩ = some (.int .u64 ((wd (P k) 3 : Nat) : Int)) ∧ v.cell? ⟨bs, 0, none⟩ = some (.string s)) w2.drew := ⟨a0, a1, a2, a3, C2.s0⟩
        clear a0 a1 a2 a3 c0 c1 c2 c3 E2
        refine takeH (i := 0) (v := .agg #[.int .u64 ((wd (P k) 0 : Nat) : Int), .int .u64 ((wd (P k) 1 : Nat) : Int), .int .u64 ((wd (P k) 2 : Nat) : Int), .int .u64 ((wd (P k) 3 : Nat) : Int)]) rfl (by kernel_rfl) (by kernel_rfl) (by kernel_rfl) (fun _ _ _ h => h) rfl ?_ hH ?_
        · rintro v0 ⟨q0, q1, q2, q3, q4⟩
          go_simp
        try simp only [Act.put, List.setIfInBounds_toArray, List.set_cons_zero, List.set_cons_succ]
        refine takeH (i := 1) (v := .string s) rfl (by kernel_rfl) (by kernel_rfl) (by kernel_rfl) (fun _ _ _ h => h) rfl ?_ hH ?_
        · rintro v0 ⟨q0, q1, q2, q3, q4⟩
          go_simp
        try simp only [Act.put, List.setIfInBounds_toArray, List.set_cons_zero, List.set_cons_succ]
        refine takeH (i := 2) (v := .int .i64 (i : Int)) rfl (by kernel_rfl) (by kernel_rfl) (by kernel_rfl) (fun _ _ _ h => h) rfl ?_ hH ?_
        · rintro v0 ⟨q0, q1, q2, q3, q4⟩
          go_simp
        try simp only [Act.put, List.setIfInBounds_toArray, List.set_cons_zero, List.set_cons_succ]
        refine takeH (i := 3) (v := .int .i64 (k : Int)) rfl (by kernel_rfl) (by kernel_rfl) (by kernel_rfl) (fun _ _ _ h => h) rfl ?_ hH ?_
        · rintro v0 ⟨q0, q1, q2, q3, q4⟩
          go_simp
        try simp only [Act.put, List.setIfInBounds_toArray, List.set_cons_zero, List.set_cons_succ]
        refine takeH (i := 4) (v := .int .i64 (q : Int)) rfl (by kernel_rfl) (by kernel_rfl) (by kernel_rfl) (fun _ _ _ h => h) rfl ?_ hH ?_
        · rintro v0 ⟨q0, q1, q2, q3, q4⟩
          go_simp
        try simp only [Act.put, List.setIfInBounds_toArray, List.set_cons_zero, List.set_cons_succ]
        refine takeH (i := 5) (v := .int .u8 ((byt s q : Nat) : Int)) rfl (by kernel_rfl) (by kernel_rfl) (by kernel_rfl) (fun _ _ _ h => h) rfl ?_ hH ?_
        · rintro v0 ⟨q0, q1, q2, q3, q4⟩
          go_simp
        try simp only [Act.put, List.setIfInBounds_toArray, List.set_cons_zero, List.set_cons_succ]
        refine stepH (i := 6) rfl (by kernel_rfl) rfl (fun K1 hK1 => ?_)
        go_simp
        refine Calls.mono (hcc.out _) ?_; rintro e w3 ⟨rfl, b3⟩
        have b3' : Below w2.heap.size w2 w3 := undrew b3
        have HB3 : Hid (Below V.heap.size V w3) := HB2'.out.trans (b3'.mono HB2'.out.size)
        have C3 := C2.grow b3'
        have l3 := C3.l1
        have H3 := c4 (Fam.below (show Fam w2 wr.heap.size 0 4 (wi (P k)) from F2.out) b3' s2)
        refine hK1.out _ _ ⟨H3.1, H3.2.1, H3.2.2.1, H3.2.2.2, C3.s0⟩ ?_
        clear hK1 K1 b3 b3' hH C2 F2 H3
        try simp only [Act.put, List.setIfInBounds_toArray, List.set_cons_zero, List.set_cons_succ]
        refine wpAnyH_done (by kernel_rfl) ?_ _
        refine hKa _ _ ?_
        clear hKa Ka hidx hcc
        cases hp : P k (byt s q) with
        | true =>
          rw [hp] at hsu
          gi_wp2
          go_roundw
          case rel => exact ⟨HB3.out, k + 1, by omega, by go_num, by rw [hsu.out]; simp, by rw [hsu.out]; simpa using hle⟩
          case measure => simp [intOf]; omega
        | false =>
          rw [hp] at hsu
          by_cases hgt : (mis P s i k : Int) + 1 ≤ K
          · have hg2 : ¬ K < (mis P s i k : Int) + 1 := by omega
            gi_wp2
            go_roundw
            case rel => exact ⟨HB3.out, k + 1, by omega, by go_num, by rw [hsu.out]; go_num, by rw [hsu.out]; simp; omega⟩
            case measure => simp [intOf]; omega
          · have hg2 : K < (mis P s i k : Int) + 1 := by omega
            have hno : ¬ (mis P s i n : Int) ≤ K := by
              have h1 := mis_mono P s i (show k + 1 ≤ n by omega)
              rw [hsu.out] at h1
              simp at h1
              omega
            have EF : Hid _ := flt_no (L := pre) hno
            gi_wp2
            refine ⟨Fr.of_below HB3.out (fun _ hk _ => hk), ?_, ?_, ?_⟩
            · rw [EF.out]; exact HJ.out.fewer (HJ.out.grow Hj.out HB3.out) (fun j h => .inl h)
            · exact (HB3.out.cell (p := ⟨W.heap.size, 0, none⟩) (lt_of_cell HYY.out)).trans HYY.out
            · exact HC.out.grow HB3.out
      · obtain rfl : k = n := by omega
        have yr : wr.cell? ⟨W.heap.size, 0, none⟩ = some (.func (.yield l) #[] #[]) := (HB.out.cell (p := ⟨W.heap.size, 0, none⟩) (lt_of_cell HYY.out)).trans HYY.out
        have hJr : J (flt P k K s pre) (fun j => (M j ∨ j = W.heap.size ∨ Blk3 bl bs bf ao k j) ∨ (V.heap.size ≤ j ∧ j < wr.heap.size)) wr := HJ.out.grow Hj.out HB.out
        have ef : flt P k K s (pre ++ [i]) = flt P k K s pre ++ [i] := flt_yes hle
        obtain ⟨fn, tmps, assign, body, hy, hR⟩ := HY.out _ _ i wr hJr (fun j h => by
          have hV := HB.out.size
          rcases h with (h | h | h) | h
          · exact Nat.lt_of_lt_of_le (HMV.out j h) hV
          · rw [h]; exact lt_of_cell yr
          · exact HCr.out.lt h
          · exact h.2) (by rw [← ef]; exact flt_part HP.out)
        have hRR : Hid _ := hR
        have EF : Hid _ := ef
        have fV : Hid (Fr M V wr) := Fr.of_below HB.out (fun _ hk _ => hk)
        have YR : Hid _ := yr
        clear hR ef hJr
        gi_wp2
        refine RoundIn.mono (RoundIn.within (Hid.out hRR)) ?_
        rintro e W3 ⟨f3, (⟨rfl, hJ3⟩ | ⟨rfl, hJx3⟩)⟩
        · have HF : Hid _ := f3
          have H3 : Hid _ := hJ3
          clear f3 hJ3
          gi_wp2
          refine ⟨fV.out.trans (HF.out.mono fun j _ h => .inl (.inl h)), ?_, ?_, ?_⟩
          · rw [EF.out]; exact HJ.out.fewer H3.out (fun j h => .inl h)
          · exact (HF.out.cell (p := ⟨W.heap.size, 0, none⟩) (.inl (.inr (.inl rfl))) (lt_of_cell YR.out)).trans YR.out
          · exact HCr.out.kept HF.out (fun j _ h => .inl (.inr (.inr h)))
        · have HF : Hid _ := f3
          have H3 : Hid _ := hJx3
          clear f3 hJx3
          gi_wp2
          refine ⟨fV.out.trans (HF.out.mono fun j _ h => .inl (.inl h)), rfl, ?_⟩
          rw [EF.out]; exact HJx.out.fewer H3.out (fun j h => .inl h)
end Cls
end Go.Proofs.Ytpogipingefkaaa
