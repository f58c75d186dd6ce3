/- Contracts of slices.AppendSeq, slices.Collect (of whatever gives places), naive.Find. -/
import Derived.Test.YtpogipingefkaaaNvFnd
import Derived.Maps.OwnIn
namespace Go.Proofs.Ytpogipingefkaaa
open Go.RowKit Go.Shelf
namespace Cls

theorem pls_len (L : List Nat) : (pls L).length = L.length := by simp [pls]

theorem pls_snoc (L : List Nat) (x : Nat) : pls (L ++ [x]) = pls L ++ [.int .i64 (x : Int)] := by simp [pls]

/-- What a call tells: a row of its own. -/
def Told (w : World) (L : List Nat) (e : Ending) (w' : World) : Prop :=
  (∃ bo d, e = .returned (.slice bo L.length d) ∧ Is w' bo L ∧ (1 ≤ L.length → ∃ g, bo = some ⟨g, 0, none⟩ ∧ w.heap.size ≤ g) ∧ L.length ≤ d) ∧ Below w.heap.size w w'

theorem told_of {w w' : World} {v : Value} {L : List Nat} (h : w'.ownsRow w.heap.size 3 1 v L.length (pls L)) (hb : Below w.heap.size w w') : Told w L (.returned v) w' := by
  obtain ⟨ao, c, e, hi⟩ := ownI_is (w := w') (B := w.heap.size) (v := v) (L := L) h
  subst e
  refine ⟨⟨ao, c, rfl, hi, fun hn => ?_, ?_⟩, hb⟩
  · obtain ⟨b, e, _⟩ := hi hn
    subst e
    exact ⟨b, rfl, (ownsRow_at h rfl).1⟩
  · rcases h.2 with ⟨e, e2⟩ | ⟨g, cap, cur, e, _, _, hc, _⟩
    · omega
    · injection e with _ _ e3
      omega

set_option maxRecDepth 100000 in
set_option maxHeartbeats 2000000 in
theorem appendSeq_any (gf : Nat) (lb : Array Value) (A : Nat → Prop) (X : List Nat) (hX : X.length ≤ 10000000) (w : World) (eg : ∀ args w, (callFunc gf args).run Try.prog w = .ok (.enter gf args) w) (hA : ∀ k, A k → k < w.heap.size) (hseq : SeqM Try.prog gf lb enc1 A X w) :
    Calls Try.prog 38 #[.slice none 0 0, .func (.func gf) #[] lb] w (Told w X) := by
  obtain ⟨w1, e1⟩ : ∃ w1, w1 = w.alloc (.cells #[.slice none 0 0] 30) := ⟨_, rfl⟩
  have E1 : Hid _ := e1
  have b1 : Below w.heap.size w w1 := by rw [e1]; exact (Below.refl _ _).alloc (Nat.le_refl _) _
  have bx1 : Boxed w1 w.heap.size 30 (.slice none 0 0) := by rw [e1]; exact Boxed.new w _ _
  have hs1 := hseq.later b1
  have eg' : Hid _ := eg
  obtain ⟨i0, hi, hz0, hz1, hz2⟩ := infoI
  clear hseq e1 eg
  refine (callsIn_wide (n := 9)).1 (callsIn_of_wp_marks Try.func38 rfl trivial ?_ rfl)
  refine wpIn_wide.2 ?_
  simp only [Try.ntmps38, List.size_toArray, List.length_cons, List.length_nil, Nat.reduceAdd, Nat.reduceSub, Array.replicate_succ, Array.replicate_zero, List.push_toArray, List.append_toArray, List.nil_append, List.cons_append]
  have HS : Hid _ := hs1
  have BX : Hid (Boxed w1 w.heap.size 30 (.slice none 0 0)) := bx1
  have z1 := bx1.lt
  have B1 : Hid _ := b1
  clear hs1 bx1 b1
  go_wp2_with (first | rw [← E1.out])
  clear E1
  refine (wpIn_wide (n := 9)).1 ?_
  refine' wp_seq (gf := gf) rfl eg'.out HS.out (fun _ => rfl) (fun k h => Nat.lt_of_lt_of_le (hA k h) B1.out.size)
    (fun pre M W => RB W w.heap.size w.heap.size 30 3 (pls pre) M ∧ Below w.heap.size w W)
    (fun _ _ _ _ => False)
    ((RB.abid _ _ _ _ _ _).and (Abid.below (Nat.le_refl _) (by omega))) (fun c s M M' W W' h _ _ => h)
    ⟨⟨_, BX.out, World.ownsRow_nil _ _ _ _, fun h => by have := hA _ h; omega, fun g h => by cases h⟩, B1.out⟩
    (fun i => { tmps := #[.slice none 0 0, .func (.func gf) #[] lb, .pointer (some ⟨w.heap.size, 0, none⟩), undef, .slice none 0 0, .int .i64 (i : Int), .func (.func gf) #[] lb, .int .i64 (i : Int), undef, undef, undef, undef, undef], defers := [] }) ?assign ?body ?done ?stop
  case assign =>
    intro l' x' V' K' hK
    clear HS B1 BX
    gi_wp2
    exact hK
  case stop => exact fun _ _ _ _ _ _ h _ => h.elim
  case done =>
    rintro D V hD ⟨⟨v, hv, hr, _, _⟩, hb⟩ hK
    have HK : Hid _ := hK
    rw [pls_len] at hr
    have HR : Hid (V.ownsRow w.heap.size 3 1 v X.length (pls X)) := hr
    have HB : Hid _ := hb
    have hc := hv.cell
    obtain ⟨ao, c, e, _⟩ := ownI_is (w := V) (B := w.heap.size) (v := v) (L := X) hr
    subst e
    have hD2 : w.heap.size ≤ D := by omega
    clear HS B1 BX hr hb hK hv
    go_wp2_with fail
    refine ⟨by simp, .inl ⟨_, _, rfl, run_takeDeferred HK.out, ?_⟩⟩
    refine ⟨_, results_tmp rfl _ _ _, ?_⟩
    exact told_of (ownsRow_putObj HR.out _ HK.out rfl) (HB.out.trans (belowK_b (w := w) (Nat.le_refl _) V D _ _ hD2 HK.out rfl rfl))
  case body =>
    rintro lp pre M i V ⟨⟨v, hv, hr, hB, hg⟩, hb⟩ hMV hp
    have hlen : pre.length + 1 ≤ X.length := by have := hp.length_le; simpa using this
    have HV : Hid (Boxed V w.heap.size 30 v) := hv
    have HR : Hid (V.ownsRow w.heap.size 3 1 v (pls pre).length (pls pre)) := hr
    have HG : Hid (¬ M w.heap.size ∧ (∀ g, v.ownBlock = some g → ¬ M g) ∧ ∀ k, M k → k < V.heap.size) := ⟨hB, hg, hMV⟩
    have HB : Hid _ := hb
    have hc := hv.cell
    have hsz : w.heap.size ≤ V.heap.size := hb.size
    have hpl := pls_len pre
    clear HS B1 BX hv hr hB hg hMV hb
    gi_wp2_with (first | (gi_at_builtin; refine wpListIn_append_own_at _ rfl _ _ 30 rfl w.heap.size 3 i0 (.int .i64 0) 1 8 Try.underlying30 hi hz0 hz1 hz2 rfl (by decide) _ _ _ rfl (World.ownsRow.alloc HR.out _) ⟨V.heap.size, 0, none⟩ 1 1 [.int .i64 (i : Int)] rfl rfl (cell_one_new _ _ _) (by simp [Value.oneCell']) (by unfold maxLen; omega) (by omega) (by simp; omega) ?_; intro v' w1 hown' hgrow hnil hat; obtain ⟨g', cap', rfl⟩ := ownsRow_succ hown'; obtain ⟨r1, r2, r3, r4⟩ := RB.append HV.out HR.out HG.out.1 HG.out.2.1 HG.out.2.2 (by decide) hsz (Nat.le_refl _) hown' hgrow hat; have hc1 := r4.cell; have hf1 := r4.frozen))
    rw [hpl] at r1 r2 r3
    refine ⟨r1, ⟨?_, HB.out.trans r3⟩⟩
    rw [pls_snoc]
    exact r2

theorem Told.from {w v w' : World} {L : List Nat} {e : Ending} (h : Told v L e w') (hb : Below w.heap.size w v) : Told w L e w' := by
  obtain ⟨⟨bo, d, he, hi, hn⟩, hv⟩ := h
  exact ⟨⟨bo, d, he, hi, fun h => by obtain ⟨g, e, hg⟩ := hn.1 h; exact ⟨g, e, Nat.le_trans hb.size hg⟩, hn.2⟩, hb.trans (hv.mono hb.size)⟩

set_option maxHeartbeats 1000000 in
theorem collect_any (gf : Nat) (lb : Array Value) (A : Nat → Prop) (X : List Nat) (hX : X.length ≤ 10000000) (w : World) (eg : ∀ args w, (callFunc gf args).run Try.prog w = .ok (.enter gf args) w) (hA : ∀ k, A k → k < w.heap.size) (hseq : SeqM Try.prog gf lb enc1 A X w) :
    Calls Try.prog 30 #[.func (.func gf) #[] lb] w (Told w X) := by
  have cc : Hid _ := appendSeq_any gf lb A X hX w eg hA hseq
  clear eg hA hseq
  go_enter Try.func30, Try.ntmps30
  go_wp2_with fail
  refine Calls.mono (Hid.out cc) ?_; rintro e w2 ⟨⟨bo, d, rfl, hi, hn⟩, b2⟩
  have HI : Hid (Is w2 bo X ∧ ((1 ≤ X.length → ∃ g, bo = some ⟨g, 0, none⟩ ∧ w.heap.size ≤ g) ∧ X.length ≤ d) ∧ Below w.heap.size w w2) := ⟨hi, hn, b2⟩
  clear hi hn b2 cc
  go_wp2_with fail
  go_ret
  exact ⟨⟨bo, d, rfl, HI.out.1, HI.out.2.1⟩, HI.out.2.2⟩

/-- Where a leaf is found. -/
def fnd (P : Nat → Nat → Bool) (n : Nat) (K : Int) (s : ByteArray) : List Nat := flt P n K s (plc 0 (stn P n K s.size))

theorem fnd_hts (P : Nat → Nat → Bool) (n : Nat) (K : Int) (s : ByteArray) : fnd P n K s = hts (fun i => (mis P s i n : Int)) K (stn P n K s.size) := by
  unfold fnd flt plc hts
  rw [Nat.sub_zero, List.range_eq_range']

theorem flt_len (P : Nat → Nat → Bool) (n : Nat) (K : Int) (s : ByteArray) (L : List Nat) : (flt P n K s L).length ≤ L.length := List.length_filter_le _ _

theorem fnd_len (P : Nat → Nat → Bool) (n : Nat) (K : Int) (s : ByteArray) : (fnd P n K s).length ≤ s.size + 1 := by
  have h1 := flt_len P n K s (plc 0 (stn P n K s.size))
  have h2 := stn_le P n s.size K
  rw [plc_len] at h1
  unfold fnd
  omega

set_option maxHeartbeats 1000000 in
theorem find_any (P : Nat → Nat → Bool) (n cap : Nat) (ao : Option Addr) (K : Int) (s : ByteArray) (hs : s.size ≤ 1000000) (w : World) (hl : Lf w ao n P) :
    Calls Try.prog 18 #[.agg #[.slice ao n cap, .int .i64 K], .string s] w (Told w (fnd P n K s)) := by
  obtain ⟨w1, b1⟩ := lbox w (.slice ao n cap) (.int .i64 K)
  have E1 : Hid _ := b1.eq
  have B1 : Hid (Below w.heap.size w w1) := b1.bel
  have c0 := b1.c0
  have c1 := b1.c1
  have hlen := fnd_len P n K s
  have cc : Hid _ := found_made n cap ao P K 0 s w1 (hl.grow b1.bel)
  clear b1 hl
  go_enter Try.func18, Try.ntmps18
  go_wp2_with (first | rw [← E1.out])
  refine Calls.mono (Hid.out cc) ?_; rintro e w2 ⟨rfl, c2, b2⟩
  have hsq := found_seq _ _ _ n cap ao P K 0 s hs (by omega) w2 c2
  have c3 : Hid _ := collect_any 37 _ _ _ (by show (fnd P n K s).length ≤ _; omega) w2 (enters_of Try.func37 (by kernel_rfl) rfl) (fun k h => c2.lt h) hsq
  have B2 : Hid (Below w.heap.size w w2) := B1.out.trans (b2.mono B1.out.size)
  clear hsq c2 b2 cc E1 c0 c1
  go_wp2_with fail
  refine Calls.mono (Hid.out c3) ?_; rintro e w3 h3
  obtain ⟨⟨bo, d, rfl, hi, hn⟩, b3⟩ := h3.from B2.out
  have HI : Hid (Is w3 bo (fnd P n K s) ∧ ((1 ≤ (fnd P n K s).length → ∃ g, bo = some ⟨g, 0, none⟩ ∧ w.heap.size ≤ g) ∧ (fnd P n K s).length ≤ d) ∧ Below w.heap.size w w3) := ⟨hi, hn, b3⟩
  clear hi hn b3 c3 h3
  go_wp2_with fail
  go_ret
  exact ⟨⟨bo, d, rfl, HI.out.1, HI.out.2.1⟩, HI.out.2.2⟩

end Cls
end Go.Proofs.Ytpogipingefkaaa
