/- Lists of aims: the laws' own marks. How a list of aims that comes in is opened. -/
import Derived.Test.YtelejihgechmgaaAm
import Derived.Test.YtelejihgechmgaaSo
import Derived.Test.YtelejihgechmgaaRw
namespace Go.Proofs.Ytelejihgechmgaa
open Go.ChangeShapes Go.WideShapes Go.ChangeAt Go.RowKit Go.Joins Go.Deep
set_option linter.unusedVariables false
set_option linter.unusedSimpArgs false
/-- The first mark of aim i, that of the first aim being k. -/
def mAs (k : Int) (L : Nat → Li) (i : Nat) : Int := k + (i : Int) + (LSm L i : Nat)
theorem mAs_next (k : Int) (L : Nat → Li) (i : Nat) : mAs k L (i + 1) = mAs k L i + (L i).np + 1 := by
  unfold mAs
  show k + ((i + 1 : Nat) : Int) + ((LSm L i + (L i).np : Nat) : Int) = _
  omega
theorem mAs_lo (k : Int) (L : Nat → Li) (n : Nat) : k ≤ mAs k L n := by unfold mAs; omega
theorem mAs_hi (k : Int) {n : Nat} {L : Nat → Li} (h : LFew n L) : mAs k L n ≤ k + 8000000 := by
  have h1 := h.cn
  have h2 := h.cs
  unfold mAs
  omega
theorem mAs_mid (k : Int) {n i : Nat} {L : Nat → Li} (h : LFew n L) (hi : i ≤ n) : mAs k L i ≤ k + 8000000 := by
  have h1 := h.cn
  have h2 : Sm (fun i => (L i).np) n ≤ 1048576 := h.cs
  have h3 := Sm_le (L := fun i => (L i).np) hi
  unfold mAs LSm
  omega
/-- Aims whose numbers may be others by now. -/
def Lax (lo hi : Nat) (W w : World) (g n : Nat) (L : Nat → Li) (PB PC : Nat → Nat) : Prop :=
  (∀ a, a < n → W.cell? ⟨g, a * 2, none⟩ = some (.slice (some ⟨PB a, 0, none⟩) (L a).np (PC a)) ∧ (∃ z : Int, W.cell? ⟨g, a * 2 + 1, none⟩ = some (.int .i64 z)) ∧ ∃ f : Nat → Int, Seg W (PB a) 2 0 (L a).np (fun q => .int .i64 (f q))) ∧ (∀ j, W.frozen? ⟨g, j, none⟩ = false) ∧ Within lo hi w W ∧ g < W.heap.size
set_option maxRecDepth 20000 in
set_option maxHeartbeats 3200000 in
theorem markAims_any {lo hi : Nat} {w : World} {g n cap : Nat} {L : Nat → Li} (k0 : Int) (h : OwLs lo hi w g n L) (h0 : 0 ≤ k0) (h1 : k0 ≤ 100000000) (hf : LFew n L) :
    Calls Try.prog 40 #[.slice (some ⟨g, 0, none⟩) n cap, .int .i64 k0] w fun e w' => e = .returned (.int .i64 (mAs k0 L n)) ∧ Within lo hi w w' := by
  obtain ⟨PB, PC, q1, q2, q3, q4, q5⟩ := h
  have HQ : Hid (lo ≤ g ∧ g < hi ∧ (∀ a, a < n → lo ≤ PB a ∧ PB a < hi ∧ PB a ≠ g) ∧ ∀ i j, i < n → j < n → PB i = PB j → i = j) := ⟨q1, q2, fun a ha => ⟨(q4 a ha).1, (q4 a ha).2.1, fun e => by
    obtain ⟨c, hb, _⟩ := (q4 a ha).2.2
    obtain ⟨c', hb', _⟩ := q3
    rw [e, hb'] at hb
    simp at hb⟩, q5⟩
  have H0 : Hid (Lax lo hi w w g n L PB PC) := ⟨fun a ha => ⟨q3.cell ha (show 0 < 2 by omega), ⟨_, q3.cell ha (show 1 < 2 by omega)⟩, ⟨_, (q4 a ha).2.2⟩⟩, fun j => q3.frozen j, Within.refl _ _ _, q3.lt⟩
  have HF : Hid (LFew n L) := hf
  have hnI : (n : Int) ≤ 1048576 := by have := hf.cn; omega
  clear q1 q2 q3 q4 q5 hf
  go_enter Try.func40, Try.ntmps40
  go_wp2_with fail
  go_loopw [1, 5] (fun s1 s5 wr => ∃ i : Nat, i ≤ n ∧ s1 = .int .i64 (mAs k0 L i) ∧ s5 = .int .i64 i ∧ Hid (Lax lo hi wr w g n L PB PC)) (fun _ s5 _ => n - (intOf s5).toNat)
  case atStart => exact ⟨0, Nat.zero_le _, by simp [mAs, LSm, Sm], rfl, H0.out⟩
  case round =>
    obtain ⟨i, hle, rfl, rfl, HI⟩ := hrel
    by_cases hin : i < n
    · obtain ⟨K, hK⟩ : ∃ K, K = mAs k0 L i := ⟨_, rfl⟩
      obtain ⟨m, hm⟩ : ∃ m, m = (L i).np := ⟨_, rfl⟩
      have hK0 : 0 ≤ K := by rw [hK]; have := mAs_lo k0 L i; omega
      have hK1 : K ≤ 200000000 := by rw [hK]; have := mAs_mid k0 HF.out (Nat.le_of_lt hin); omega
      have hm1 : m ≤ 1048576 := by rw [hm]; exact HF.out.each hin
      have hmI : (m : Int) ≤ 1048576 := by omega
      have HK : Hid (K = mAs k0 L i ∧ m = (L i).np) := ⟨hK, hm⟩
      have HN : Hid (mAs k0 L (i + 1) = K + m + 1) := by rw [hK, hm]; exact mAs_next k0 L i
      have hiI : (i : Int) < n := by omega
      rw [← hK]
      obtain ⟨a0, ⟨z, a1⟩, f, us⟩ := HI.out.1 i hin
      rw [← hm] at a0 us
      have HUS : Hid (Seg wr (PB i) 2 0 m (fun q => .int .i64 (f q))) := us
      clear hK hm us a1
      go_wp2_with fail
      refine (markS_some (PB i) 0 m (PC i) _ K _ (by omega) (by omega) HUS.out).mono ?_
      rintro e w1 ⟨rfl, hs1, hw1, hz1⟩
      obtain ⟨K2, hK2⟩ : ∃ K2, K2 = K + (m : Int) := ⟨_, rfl⟩
      have HK2 : Hid (K2 = K + (m : Int)) := hK2
      have hk20 : 0 ≤ K2 := by omega
      have hk21 : K2 ≤ 300000000 := by omega
      rw [← hK2]
      clear hK2 a0
      have H1 : Hid (Lax lo hi w1 w g n L PB PC) := by
        obtain ⟨p1, p2, p3, p4⟩ := HQ.out
        obtain ⟨c1, c2, c3, c4⟩ := HI.out
        have key : ∀ b, b < wr.heap.size → b ≠ PB i → w1.heap[b]? = wr.heap[b]? := fun b hb hn => by
          by_cases c : b < PB i
          · exact hw1.below.block b c
          · exact hw1.above b (by omega) hb
        have hg := key g c4 (Ne.symm (p3 i hin).2.2)
        have cellg : ∀ j, w1.cell? ⟨g, j, none⟩ = wr.cell? ⟨g, j, none⟩ := fun j => by unfold World.cell?; rw [hg]
        refine ⟨fun a ha => ⟨(cellg _).trans (c1 a ha).1, ?_, ?_⟩, fun j => ?_, c3.trans (hw1.mono (p3 i hin).1 (p3 i hin).2.1), by omega⟩
        · obtain ⟨z, hz⟩ := (c1 a ha).2.1
          exact ⟨z, (cellg _).trans hz⟩
        · by_cases e : a = i
          · subst e
            refine ⟨fun q => K + q, ?_⟩
            rw [← HK.out.2]
            exact hs1
          · obtain ⟨f', hf'⟩ := (c1 a ha).2.2
            exact ⟨f', hf'.of_block (key _ hf'.lt fun e2 => e (p4 a i ha hin e2))⟩
        · have := c2 j
          unfold World.frozen? at this ⊢
          rw [hg]
          exact this
      obtain ⟨z1, b1⟩ := (H1.out.1 i hin).2.1
      have bf := H1.out.2.1
      clear hs1 hw1 hz1
      go_wp2
      go_roundw
      case rel =>
        obtain ⟨p1, p2, p3, p4⟩ := HQ.out
        obtain ⟨c1, c2, c3, c4⟩ := H1.out
        refine ⟨i + 1, by omega, by rw [HN.out, HK2.out], by simp, fun a ha => ⟨?_, ?_, ?_⟩, fun j => ?_, c3.setCell (by exact p1) (by exact p2) _, by simpa using c4⟩
        · refine Eq.trans (World.cell?_setCell_other _ _ _ _ ?_) (c1 a ha).1
          first | (simp; done) | (simp; omega)
        · by_cases e : a = i
          · subst e
            exact ⟨K2, by go_simp⟩
          · obtain ⟨z, hz⟩ := (c1 a ha).2.1
            refine ⟨z, Eq.trans (World.cell?_setCell_other _ _ _ _ ?_) hz⟩
            first | (simp; done) | (simp; omega)
        · obtain ⟨f', hf'⟩ := (c1 a ha).2.2
          exact ⟨f', hf'.setOther (by exact (p3 a ha).2.2) _⟩
        · simpa using c2 j
      case measure => simp [intOf]; omega
    · obtain rfl : i = n := by omega
      go_wp2
      go_ret
      exact ⟨rfl, HI.out.2.2.1⟩
theorem cells90 : Try.prog.cellsOf 90 = 2 := by kernel_rfl
set_option maxRecDepth 100000 in
theorem trod_row {H : Type} {enc : TypeId × Value → H} {W : World} {fuel : Nat} {c : Value} {x : DataW H × List MemPlace}
    (hf : DataW.trod enc Try.prog W 0 (fun _ => true) true fuel 24 [c] = some x) : ∃ (n : Nat) (f : Nat → Int), RdRow W c n f ∧ n ≤ 9223372036854775807 := by
  rcases open_ints Try.underlying24 Try.underlying2 cells2 hf with ⟨hcs0, _⟩ | ⟨a, len', cap', zs, hcs0, _, hl, hm, hz, _, hc, _⟩
  · simp at hcs0
    subst hcs0
    exact ⟨0, fun _ => 0, Or.inl ⟨_, _, rfl, rfl⟩, by omega⟩
  simp at hcs0
  subst hcs0
  rw [maxLen_eq] at hm
  simp only [if_true] at hz
  by_cases h0 : len' = 0
  · subst h0
    exact ⟨0, fun _ => 0, Or.inl ⟨_, _, rfl, rfl⟩, by omega⟩
  obtain ⟨b, o, spot⟩ := a
  have hspot : spot = none := by simpa [Addr.add] using World.cell?_spot (hc 0 (by omega))
  subst hspot
  exact ⟨len', fun i => zs.getD i 0, Or.inr ⟨b, o, cap', rfl, fun i hi => by rw [← add_plain]; exact hc i (by omega)⟩, by omega⟩
/-- What one aim that comes in tells. -/
def LOne (W : World) (g : Li × Value) : Prop := RdRow W g.2 g.1.np g.1.p ∧ g.1.np ≤ 9223372036854775807 ∧ -9223372036854775808 ≤ g.1.want ∧ g.1.want ≤ 9223372036854775807
set_option maxRecDepth 100000 in
theorem trod_aim {H : Type} {enc : TypeId × Value → H} {W : World} {fuel : Nat} {c0 c1 : Value} {x : DataW H × List MemPlace}
    (hf : DataW.trod enc Try.prog W 0 (fun _ => true) true fuel 90 [c0, c1] = some x) : ∃ g : Li × Value, LOne W g ∧ c0 = g.2 ∧ c1 = .int .i64 g.1.want := by
  obtain ⟨xs, m, _, _, _, hlen, hx⟩ := DataW.trod_struct Try.underlying90 hf
  have hl : xs.length = 2 := hlen
  have g0 := hx 0 _ rfl
  have g1 := hx 1 _ rfl
  rw [List.getElem?_eq_getElem (by omega)] at g0 g1
  change DataW.trod enc Try.prog W 0 (fun _ => true) true m 24 (([c0, c1].drop 0).take (Try.prog.cellsOf 24)) = _ at g0
  change DataW.trod enc Try.prog W 0 (fun _ => true) true m 2 (([c0, c1].drop 1).take (Try.prog.cellsOf 2)) = _ at g1
  rw [cells2] at g1
  rw [cells38] at g0
  obtain ⟨a, e1, _, b1⟩ := DataW.trod_int Try.underlying2 g1
  simp at e1
  obtain ⟨np, p, h2, b2⟩ := trod_row (c := c0) g0
  exact ⟨⟨⟨np, p, a⟩, c0⟩, ⟨h2, b2, i64_lo b1, i64_hi b1⟩, rfl, e1⟩
set_option maxRecDepth 100000 in
theorem open_aims {H : Type} {enc : TypeId × Value → H} {W : World} {base : Nat} {v : Value} {d : DataW H} {p : List MemPlace} (hv : Value.okWide Try.prog W .any base 42 v)
    (h : DataW.Trod enc Try.prog W 0 (fun _ => true) true 42 v d p) : ∃ (n : Nat) (L : Nat → Li), RdL W v n L ∧ n ≤ 9223372036854775807 ∧ LBd n L := by
  obtain ⟨a0, len0, cap0, rfl⟩ := okWide_slice Try.underlying42 hv
  obtain ⟨fuel, hf0⟩ := h
  have hf : DataW.trod enc Try.prog W 0 (fun _ => true) true fuel 42 [.slice a0 len0 cap0] = some (d, p) := by simpa [Value.cells] using hf0
  rcases DataW.trod_slice Try.underlying42 hf with ⟨hcs0, _⟩ | ⟨a, len, cap, elems, rest, n, _, hcs0, _, _, hl, hm, hlen, hel, _, _⟩
  · simp at hcs0
    obtain ⟨rfl, rfl, rfl⟩ := hcs0
    exact ⟨0, fun _ => zl, ⟨fun _ => .slice none 0 0, Or.inl ⟨_, _, rfl, rfl⟩, fun i hi => absurd hi (Nat.not_lt_zero _)⟩, by omega, fun i hi => absurd hi (Nat.not_lt_zero _)⟩
  simp at hcs0
  obtain ⟨rfl, rfl, rfl⟩ := hcs0
  unfold maxLen at hm
  by_cases h0 : len0 = 0
  · subst h0
    exact ⟨0, fun _ => zl, ⟨fun _ => .slice none 0 0, Or.inl ⟨_, _, rfl, rfl⟩, fun i hi => absurd hi (Nat.not_lt_zero _)⟩, by omega, fun i hi => absurd hi (Nat.not_lt_zero _)⟩
  obtain ⟨G, h1, h2⟩ := rdv_of (W := W) (a := a) (len := len0) (cap := cap0) (m := 2) (by omega) (by omega) (zl, Value.slice none 0 0) (fun g j => lcell g.1 g.2 j) (LOne W) (by
    intro i hi
    have h1 := hel i hi
    rw [cells90] at h1
    obtain ⟨y, hy⟩ : ∃ y, elems[i]? = some y := ⟨elems[i]'(by omega), List.getElem?_eq_getElem (by omega)⟩
    rw [hy, Option.bind_eq_some_iff] at h1
    obtain ⟨cs', hcs, hy'⟩ := h1
    obtain ⟨_, hcl, hce⟩ := World.cells?_some hcs
    match cs', hcl with
    | [c0, c1], _ =>
      obtain ⟨g, hg, e0, e1⟩ := trod_aim hy'
      refine ⟨g, hg, fun j hj => ?_⟩
      have e := hce j hj
      rw [e0, e1] at e
      match j, hj with
      | 0, _ => exact e
      | 1, _ => exact e)
  exact ⟨len0, fun i => (G i).1, ⟨fun i => (G i).2, h1, fun i hi => (h2 i hi).1⟩, by omega, fun i hi => (h2 i hi).2⟩
end Go.Proofs.Ytelejihgechmgaa
