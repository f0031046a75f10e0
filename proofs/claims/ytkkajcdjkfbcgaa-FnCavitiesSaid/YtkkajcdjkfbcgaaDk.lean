/- The drawing of a cavity out of bytes: contracts. -/
import Derived.Test.YtkkajcdjkfbcgaaDs
import Derived.Test.YtkkajcdjkfbcgaaLwat
import Derived.Test.YtkkajcdjkfbcgaaMo
import Derived.Deep.RegionHeld3
namespace Go.Proofs.Ytkkajcdjkfbcgaa
open Go.RowKit
set_option linter.unusedVariables false
set_option linter.unusedSimpArgs false
theorem RdB.form {w : World} {v : Value} {n : Nat} {g : Nat → Int} (h : RdB w v n g) : ∃ ao cap, v = .slice ao n cap := by
  rcases h with ⟨ao, cap, rfl, rfl⟩ | ⟨b, off, cap, rfl, _⟩
  · exact ⟨_, _, rfl⟩
  · exact ⟨_, _, rfl⟩
theorem RdB.later {w w' : World} {v : Value} {n : Nat} {g : Nat → Int} (h : RdB w v n g) (hb : Below w.heap.size w w') : RdB w' v n g := by
  rcases h with h | ⟨b, off, cap, rfl, h⟩
  · exact Or.inl h
  · exact Or.inr ⟨b, off, cap, rfl, fun i hi => kold hb (h i hi)⟩
theorem Src.drew {w0 w : World} {v : Value} {a : Int} {p : Nat} (h : Src w0 w v a p) : Src w0 w.drew v a p := ⟨h.below.drew, h.new, h.code, h.here, h.free⟩
theorem Blk.drew {W : World} {b : Nat} {cs : Array Value} {t : TypeId} (h : Blk W b cs t) : Blk W.drew b cs t := h
theorem Blk.two {W : World} {b : Nat} {x0 x1 : Value} {t : TypeId} (h : Blk W b #[x0, x1] t) (y0 y1 : Value) : Blk ((W.setCell ⟨b, 0, none⟩ y0).setCell ⟨b, 1, none⟩ y1) b #[y0, y1] t := by
  have h1 := (h.set 0 y0).set 1 y1
  simpa using h1
set_option maxRecDepth 20000 in
set_option maxHeartbeats 3200000 in
theorem len_any : Dr 102 2 1000000000 := by
  intro w0 w v a p hS NX h0 hK
  have N : Hid (Nexts w0 v p) := NX
  have hp := hS.lt
  have hw := hS.below.size
  obtain ⟨w1, hw1⟩ : ∃ W, W = w.alloc (.cells #[.int .i64 0, .int .i64 0] 32) := ⟨_, rfl⟩
  have S1 : Hid (Src w0 w1 v a p) := by show Src _ _ _ _ _; rw [hw1]; exact hS.alloc _
  have U1 : Hid (Bu p w w1) := by show Bu _ _ _; rw [hw1]; exact (Bu.refl _ _).alloc _
  have R1 : Hid (Blk w1 w.heap.size #[.int .i64 0, .int .i64 0] 32) := by show Blk _ _ _ _; rw [hw1]; exact Blk.new rfl
  clear hS NX
  go_enter Try.func102, Try.ntmps102
  go_upto_region 1 with fail
  rw [← hw1]
  clear hw1
  go_wp2_with fail
  refine (N.out _ _ 12 S1.out (by omega) (by omega) (by omega) (by omega)).mono ?_
  rintro e w2 ⟨r, rfl, r0, r1, hs, hb⟩
  have S2 : Hid (Src w0 w2 v (a + 1) p) := hs
  have u := bu_next hs hb
  have U2 : Hid (Bu p w w2) := U1.out.trans u
  have R2 : Hid (Blk w2 w.heap.size #[.int .i64 0, .int .i64 0] 32) := u.keep R1.out (by omega)
  clear u hs S1 U1 R1
  clear hb
  go_wp2_with fail
  refine (N.out _ _ 3 S2.out (by omega) (by omega) (by omega) (by omega)).mono ?_
  rintro e w3 ⟨q, rfl, q0, q1, hs, hb⟩
  have S3 : Hid (Src w0 w3 v (a + 1 + 1) p) := hs
  have u := bu_next hs hb
  have U3 : Hid (Bu p w w3) := U2.out.trans u
  have R3 : Hid (Blk w3 w.heap.size #[.int .i64 0, .int .i64 0] 32) := u.keep R2.out (by omega)
  clear u hs S2 U2 R2
  clear hb
  have hf60 := field60
  go_wp2_with fail
  refine (slow (1 + r) (1 + q) _ (by omega) (by omega) (by omega) (by omega) (by omega)).mono ?_
  rintro e w4 ⟨rfl, hb⟩
  have hs := S3.out.later hb
  have S4 : Hid (Src w0 w4 v (a + 1 + 1) p) := hs
  have u := Bu.of_below (p := p) hb
  have U4 : Hid (Bu p w w4) := U3.out.trans u
  have R4 : Hid (Blk w4 w.heap.size #[.int .i64 0, .int .i64 0] 32) := u.keep R3.out (by omega)
  clear u hs S3 U3 R3
  clear hb
  have c0 := R4.out.cell (j := 0) (v := .int .i64 0) rfl
  have f0 := R4.out.frozen 0
  have c1 := R4.out.cell (j := 1) (v := .int .i64 0) rfl
  have f1 := R4.out.frozen 1
  go_wp2
  exact bodyPost_ret (v := .agg #[.int .i64 (resN (1 + r) (1 + q)), .int .i64 (resD (1 + r) (1 + q))]) (by simp [results, Try.results102, go_sem, c0, c1]) rfl ⟨⟨resN (1 + r) (1 + q), resD (1 + r) (1 + q)⟩, a + 1 + 1, rfl, res_bd _ _, ⟨by omega, by omega⟩, (S4.out.set (by omega) (by omega) _).set (by omega) (by omega) _, (U4.out.set (Nat.le_refl _) _).set (Nat.le_refl _) _⟩
theorem qb_up {B C : Int} {q : Q} (h : QB B q) (k : B ≤ C) : QB C q := by
  unfold QB at *
  omega
set_option maxRecDepth 20000 in
set_option maxHeartbeats 6400000 in
theorem mirrors_any {w : World} {v : Value} {n : Nat} {g : Nat → Int} (hB : RdB w v n g) (hg : ∀ i, i < n → 0 ≤ g i ∧ g i ≤ 255) (hn : n ≤ 1000000000000) :
    Calls Try.prog 59 #[v] w fun e w' => ∃ (x y z : Q), e = .returned (.tuple #[.agg #[.int .i64 x.n, .int .i64 x.d], .agg #[.int .i64 y.n, .int .i64 y.d], .agg #[.int .i64 z.n, .int .i64 z.d]]) ∧ (QB 3000000000 x ∧ QB 3000000000 y ∧ QB 3000000000 z) ∧ Below w.heap.size w w' := by
  obtain ⟨ao, cap, rfl⟩ := hB.form
  go_enter Try.func59, Try.ntmps59
  go_upto_region 1 with fail
  obtain ⟨v1, hv⟩ : ∃ X, X = ((w.alloc (.cells #[.int .i64 0, .int .i64 0] 32)).alloc (.cells #[.int .i64 0, .int .i64 0] 32)).alloc (.cells #[.int .i64 0, .int .i64 0] 32) := ⟨_, rfl⟩
  rw [← hv]
  have H1 : Hid (Below w.heap.size w v1) := by show Below _ _ _; rw [hv]; go_grown
  have B0 : Hid (Blk v1 w.heap.size #[.int .i64 0, .int .i64 0] 32) := by show Blk _ _ _ _; rw [hv]; exact Blk.alloc (Blk.alloc (Blk.new rfl) _) _
  have B1 : Hid (Blk v1 (w.heap.size + 1) #[.int .i64 0, .int .i64 0] 32) := by show Blk _ _ _ _; rw [hv]; exact Blk.alloc (Blk.new (by simp)) _
  have B2 : Hid (Blk v1 (w.heap.size + 1 + 1) #[.int .i64 0, .int .i64 0] 32) := by show Blk _ _ _ _; rw [hv]; exact Blk.new (by simp)
  have HN : Hid (∀ p, Nexts v1 (.slice ao n cap) p) := fun p => nexts_of (hB.later H1.out) hg hn
  clear hv hB hg hn
  go_wp2_with fail
  refine (source_any ao n cap _).mono ?_
  rintro e v2 ⟨rfl, hw2⟩
  have HS : Hid (Src v1 v2 (.slice ao n cap) 0 v1.heap.size) := by rw [hw2]; exact src_new _ _
  have h0n : Hid (w.heap.size ≠ v1.heap.size) := Nat.ne_of_lt B0.out.lt
  have h1n : Hid (w.heap.size + 1 ≠ v1.heap.size) := Nat.ne_of_lt B1.out.lt
  have h2n : Hid (w.heap.size + 1 + 1 ≠ v1.heap.size) := Nat.ne_of_lt B2.out.lt
  replace B0 : Hid (Blk v2 w.heap.size #[.int .i64 0, .int .i64 0] 32) := by show Blk _ _ _ _; rw [hw2]; exact Blk.alloc B0.out _
  replace B1 : Hid (Blk v2 (w.heap.size + 1) #[.int .i64 0, .int .i64 0] 32) := by show Blk _ _ _ _; rw [hw2]; exact Blk.alloc B1.out _
  replace B2 : Hid (Blk v2 (w.heap.size + 1 + 1) #[.int .i64 0, .int .i64 0] 32) := by show Blk _ _ _ _; rw [hw2]; exact Blk.alloc B2.out _
  clear hw2
  obtain ⟨p, hp⟩ : ∃ p, p = v1.heap.size := ⟨_, rfl⟩
  rw [← hp] at HS h0n h1n h2n ⊢
  clear hp
  go_wp2_with fail
  refine (len_any _ _ _ _ _ HS.out (HN.out p) (by omega) (by omega)).mono ?_
  rintro e v3 ⟨x1, k, rfl, zBx1, ⟨k0, k1⟩, hs, hb⟩
  replace HS : Hid (Src v1 v3 (.slice ao n cap) k p) := hs
  replace B0 : Hid (Blk v3 (w.heap.size) #[.int .i64 0, .int .i64 0] 32) := hb.keep B0.out h0n.out
  replace B1 : Hid (Blk v3 (w.heap.size + 1) #[.int .i64 0, .int .i64 0] 32) := hb.keep B1.out h1n.out
  replace B2 : Hid (Blk v3 (w.heap.size + 1 + 1) #[.int .i64 0, .int .i64 0] 32) := hb.keep B2.out h2n.out
  have HK : Hid (0 ≤ k ∧ k ≤ 2) := ⟨by omega, by omega⟩
  clear hs hb k0 k1
  go_upto_region 3 with fail
  obtain ⟨P, hP⟩ : ∃ P, P = v3.heap.size := ⟨_, rfl⟩
  have hnt : Hid (P ≠ p) := by show _ ≠ _; have := HS.out.lt; omega
  have hnth : Hid (v1.heap.size ≤ P) := by show _ ≤ _; have := HS.out.below.size; omega
  have hntB0 : Hid (P ≠ w.heap.size) := by show _ ≠ _; have := B0.out.lt; omega
  have hntB1 : Hid (P ≠ w.heap.size + 1) := by show _ ≠ _; have := B1.out.lt; omega
  have hntB2 : Hid (P ≠ w.heap.size + 1 + 1) := by show _ ≠ _; have := B2.out.lt; omega
  obtain ⟨v4, hv⟩ : ∃ X, X = v3.alloc (.cells #[.int .i64 x1.n, .int .i64 x1.d] 32) := ⟨_, rfl⟩
  rw [← hv, ← hP]
  have BT : Hid (Blk v4 P #[.int .i64 x1.n, .int .i64 x1.d] 32) := by show Blk _ _ _ _; rw [hv]; exact Blk.new hP
  replace HS : Hid (Src v1 v4 (.slice ao n cap) k p) := by rw [hv]; exact HS.out.alloc _
  replace B0 : Hid (Blk v4 (w.heap.size) #[.int .i64 0, .int .i64 0] 32) := by show Blk _ _ _ _; rw [hv]; exact Blk.alloc B0.out _
  replace B1 : Hid (Blk v4 (w.heap.size + 1) #[.int .i64 0, .int .i64 0] 32) := by show Blk _ _ _ _; rw [hv]; exact Blk.alloc B1.out _
  replace B2 : Hid (Blk v4 (w.heap.size + 1 + 1) #[.int .i64 0, .int .i64 0] 32) := by show Blk _ _ _ _; rw [hv]; exact Blk.alloc B2.out _
  clear hv hP
  go_wp2_with fail
  refine (chance_any HS.out (HN.out p) (by have := HK.out; omega) (by have := HK.out; omega) 12 (by omega) (by omega)).mono ?_
  rintro e v5 ⟨b, rfl, hs, hb⟩
  replace HS : Hid (Src v1 v5 (.slice ao n cap) (k + 1) p) := hs
  replace B0 : Hid (Blk v5 (w.heap.size) #[.int .i64 0, .int .i64 0] 32) := hb.keep B0.out h0n.out
  replace B1 : Hid (Blk v5 (w.heap.size + 1) #[.int .i64 0, .int .i64 0] 32) := hb.keep B1.out h1n.out
  replace B2 : Hid (Blk v5 (w.heap.size + 1 + 1) #[.int .i64 0, .int .i64 0] 32) := hb.keep B2.out h2n.out
  replace BT : Hid (Blk v5 (P) #[.int .i64 x1.n, .int .i64 x1.d] 32) := hb.keep BT.out hnt.out
  clear hs hb
  cases b with
  | false =>
    replace HK : Hid (0 ≤ k + 1 ∧ k + 1 ≤ 3) := by have := HK.out; exact ⟨by omega, by omega⟩
    go_wp2_with fail
    refine (plain_any _ _ _ _ _ HS.out (HN.out p) (by have := HK.out; omega) (by have := HK.out; omega)).mono ?_
    rintro e v6 ⟨y1, k6, rfl, zBy1, ⟨k0, k1⟩, hs, hb⟩
    replace HS : Hid (Src v1 v6 (.slice ao n cap) k6 p) := hs
    replace B0 : Hid (Blk v6 (w.heap.size) #[.int .i64 0, .int .i64 0] 32) := hb.keep B0.out h0n.out
    replace B1 : Hid (Blk v6 (w.heap.size + 1) #[.int .i64 0, .int .i64 0] 32) := hb.keep B1.out h1n.out
    replace B2 : Hid (Blk v6 (w.heap.size + 1 + 1) #[.int .i64 0, .int .i64 0] 32) := hb.keep B2.out h2n.out
    replace BT : Hid (Blk v6 (P) #[.int .i64 x1.n, .int .i64 x1.d] 32) := hb.keep BT.out hnt.out
    replace HK : Hid (0 ≤ k6 ∧ k6 ≤ 8) := by have := HK.out; exact ⟨by omega, by omega⟩
    clear hs hb k0 k1
    go_upto_region 6 with fail
    obtain ⟨R, hR⟩ : ∃ P, P = v6.heap.size := ⟨_, rfl⟩
    have hnu : Hid (R ≠ p) := by show _ ≠ _; have := HS.out.lt; omega
    have hnuh : Hid (v1.heap.size ≤ R) := by show _ ≤ _; have := HS.out.below.size; omega
    have hnuB0 : Hid (R ≠ w.heap.size) := by show _ ≠ _; have := B0.out.lt; omega
    have hnuB1 : Hid (R ≠ w.heap.size + 1) := by show _ ≠ _; have := B1.out.lt; omega
    have hnuB2 : Hid (R ≠ w.heap.size + 1 + 1) := by show _ ≠ _; have := B2.out.lt; omega
    have hnuBT : Hid (R ≠ P) := by show _ ≠ _; have := BT.out.lt; omega
    obtain ⟨v7, hv⟩ : ∃ X, X = v6.alloc (.cells #[.int .i64 y1.n, .int .i64 y1.d] 32) := ⟨_, rfl⟩
    rw [← hv, ← hR]
    have BU : Hid (Blk v7 R #[.int .i64 y1.n, .int .i64 y1.d] 32) := by show Blk _ _ _ _; rw [hv]; exact Blk.new hR
    replace HS : Hid (Src v1 v7 (.slice ao n cap) k6 p) := by rw [hv]; exact HS.out.alloc _
    replace B0 : Hid (Blk v7 (w.heap.size) #[.int .i64 0, .int .i64 0] 32) := by show Blk _ _ _ _; rw [hv]; exact Blk.alloc B0.out _
    replace B1 : Hid (Blk v7 (w.heap.size + 1) #[.int .i64 0, .int .i64 0] 32) := by show Blk _ _ _ _; rw [hv]; exact Blk.alloc B1.out _
    replace B2 : Hid (Blk v7 (w.heap.size + 1 + 1) #[.int .i64 0, .int .i64 0] 32) := by show Blk _ _ _ _; rw [hv]; exact Blk.alloc B2.out _
    replace BT : Hid (Blk v7 (P) #[.int .i64 x1.n, .int .i64 x1.d] 32) := by show Blk _ _ _ _; rw [hv]; exact Blk.alloc BT.out _
    clear hv hR
    go_wp2_with fail
    refine (chance_any HS.out (HN.out p) (by have := HK.out; omega) (by have := HK.out; omega) 20 (by omega) (by omega)).mono ?_
    rintro e v8 ⟨b, rfl, hs, hb⟩
    replace HS : Hid (Src v1 v8 (.slice ao n cap) (k6 + 1) p) := hs
    replace B0 : Hid (Blk v8 (w.heap.size) #[.int .i64 0, .int .i64 0] 32) := hb.keep B0.out h0n.out
    replace B1 : Hid (Blk v8 (w.heap.size + 1) #[.int .i64 0, .int .i64 0] 32) := hb.keep B1.out h1n.out
    replace B2 : Hid (Blk v8 (w.heap.size + 1 + 1) #[.int .i64 0, .int .i64 0] 32) := hb.keep B2.out h2n.out
    replace BT : Hid (Blk v8 (P) #[.int .i64 x1.n, .int .i64 x1.d] 32) := hb.keep BT.out hnt.out
    replace BU : Hid (Blk v8 (R) #[.int .i64 y1.n, .int .i64 y1.d] 32) := hb.keep BU.out hnu.out
    clear hs hb
    cases b with
    | false =>
      replace HK : Hid (0 ≤ k6 + 1 ∧ k6 + 1 ≤ 9) := by have := HK.out; exact ⟨by omega, by omega⟩
      have hx0 : Blk v8 P #[.int .i64 x1.n, .int .i64 x1.d] 32 ∧ Blk v8 R #[.int .i64 y1.n, .int .i64 y1.d] 32 := ⟨BT.out, BU.out⟩
      have e0 : ∀ W, (Blk W P #[.int .i64 x1.n, .int .i64 x1.d] 32 ∧ Blk W R #[.int .i64 y1.n, .int .i64 y1.d] 32) → W.cell? ⟨P, 0, none⟩ = some (.int .i64 x1.n) := fun _ h => h.1.cell (j := 0) rfl
      have e1 : ∀ W, (Blk W P #[.int .i64 x1.n, .int .i64 x1.d] 32 ∧ Blk W R #[.int .i64 y1.n, .int .i64 y1.d] 32) → W.cell? ⟨P, 1, none⟩ = some (.int .i64 x1.d) := fun _ h => h.1.cell (j := 1) rfl
      have e2 : ∀ W, (Blk W P #[.int .i64 x1.n, .int .i64 x1.d] 32 ∧ Blk W R #[.int .i64 y1.n, .int .i64 y1.d] 32) → W.cell? ⟨R, 0, none⟩ = some (.int .i64 y1.n) := fun _ h => h.2.cell (j := 0) rfl
      have e3 : ∀ W, (Blk W P #[.int .i64 x1.n, .int .i64 x1.d] 32 ∧ Blk W R #[.int .i64 y1.n, .int .i64 y1.d] 32) → W.cell? ⟨R, 1, none⟩ = some (.int .i64 y1.d) := fun _ h => h.2.cell (j := 1) rfl
      go_upto_region 8 with fail
      go_region_held (fun W => Blk W P #[.int .i64 x1.n, .int .i64 x1.d] 32 ∧ Blk W R #[.int .i64 y1.n, .int .i64 y1.d] 32) (first | with_reducible assumption | with_reducible exact ⟨Blk.drew ‹_ ∧ _›.1, Blk.drew ‹_ ∧ _›.2⟩ | with_reducible exact ⟨Blk.setOther (Blk.setOther ‹_ ∧ _›.1 hntB0.out _) hntB0.out _, Blk.setOther (Blk.setOther ‹_ ∧ _›.2 hnuB0.out _) hnuB0.out _⟩ | with_reducible exact ⟨Blk.setOther (Blk.setOther ‹_ ∧ _›.1 hntB1.out _) hntB1.out _, Blk.setOther (Blk.setOther ‹_ ∧ _›.2 hnuB1.out _) hnuB1.out _⟩ | with_reducible exact ⟨Blk.setOther (Blk.setOther ‹_ ∧ _›.1 hntB2.out _) hntB2.out _, Blk.setOther (Blk.setOther ‹_ ∧ _›.2 hnuB2.out _) hnuB2.out _⟩)
        (first | (go_at_call 104; refine (plain_any _ _ _ _ _ (Src.drew HS.out) (HN.out p) (by have := HK.out; omega) (by have := HK.out; omega)).mono ?_; rintro e w1 ⟨z, k2, rfl, zBz, _, hs1, hb1⟩; have hR1 : Blk w1 P #[.int .i64 x1.n, .int .i64 x1.d] 32 ∧ Blk w1 R #[.int .i64 y1.n, .int .i64 y1.d] 32 := ⟨hb1.keep BT.out hnt.out, hb1.keep BU.out hnu.out⟩; have D0 : Blk w1 w.heap.size #[.int .i64 0, .int .i64 0] 32 := hb1.keep B0.out h0n.out; have D1 : Blk w1 (w.heap.size + 1) #[.int .i64 0, .int .i64 0] 32 := hb1.keep B1.out h1n.out; have D2 : Blk w1 (w.heap.size + 1 + 1) #[.int .i64 0, .int .i64 0] 32 := hb1.keep B2.out h2n.out; have HB1 : Hid (Below v1.heap.size v1 w1) := hs1.below; have ZB : Hid (QB 1000000000 z) := zBz; clear hs1 hb1 zBz; have c0 := D0.cell (j := 0) rfl; have c1 := D0.cell (j := 1) rfl; have d0 := D1.cell (j := 0) rfl; have d1 := D1.cell (j := 1) rfl; have g0 := D2.cell (j := 0) rfl; have g1 := D2.cell (j := 1) rfl; have cf := D0.frozen; have df := D1.frozen; have gf := D2.frozen; have cz := D0.lt; have dz := D1.lt; have gz := D2.lt))
      all_goals
        go_wp2
        refine bodyPost_ret (v := .tuple #[.agg #[.int .i64 x1.n, .int .i64 x1.d], .agg #[.int .i64 y1.n, .int .i64 y1.d], .agg #[.int .i64 z.n, .int .i64 z.d]]) (by simp [results, Try.results59, go_sem, c0, c1, d0, d1, g0, g1, cf, df, gf, cz, dz, gz] <;> (repeat' (first | rfl | apply And.intro))) rfl ⟨x1, y1, z, rfl, ⟨qb_up zBx1 (by omega), qb_up zBy1 (by omega), qb_up ZB.out (by omega)⟩, ?_⟩
        have h := H1.out.trans (HB1.out.mono H1.out.size)
        go_grown
    | true =>
      go_wp2_with fail
      refine (bent_any _ _ _ _ _ HS.out (HN.out p) (by have := HK.out; omega) (by have := HK.out; omega)).mono ?_
      rintro e v9 ⟨y2, k9, rfl, zBy2, ⟨k0, k1⟩, hs, hb⟩
      replace HS : Hid (Src v1 v9 (.slice ao n cap) k9 p) := hs
      replace B0 : Hid (Blk v9 (w.heap.size) #[.int .i64 0, .int .i64 0] 32) := hb.keep B0.out h0n.out
      replace B1 : Hid (Blk v9 (w.heap.size + 1) #[.int .i64 0, .int .i64 0] 32) := hb.keep B1.out h1n.out
      replace B2 : Hid (Blk v9 (w.heap.size + 1 + 1) #[.int .i64 0, .int .i64 0] 32) := hb.keep B2.out h2n.out
      replace BT : Hid (Blk v9 (P) #[.int .i64 x1.n, .int .i64 x1.d] 32) := hb.keep BT.out hnt.out
      replace BU : Hid (Blk v9 (R) #[.int .i64 y1.n, .int .i64 y1.d] 32) := hb.keep BU.out hnu.out
      replace HK : Hid (0 ≤ k9 ∧ k9 ≤ 15) := by have := HK.out; exact ⟨by omega, by omega⟩
      clear hs hb k0 k1
      have c0 := BU.out.cell (j := 0) rfl
      have c1 := BU.out.cell (j := 1) rfl
      have f0 := BU.out.frozen 0
      have f1 := BU.out.frozen 1
      go_upto_region 8 with fail
      obtain ⟨sv9, hv⟩ : ∃ X, X = (v9.setCell ⟨R, 0, none⟩ (.int .i64 y2.n)).setCell ⟨R, 1, none⟩ (.int .i64 y2.d) := ⟨_, rfl⟩
      rw [← hv]
      replace BU : Hid (Blk sv9 R #[.int .i64 y2.n, .int .i64 y2.d] 32) := by show Blk _ _ _ _; rw [hv]; exact Blk.two BU.out _ _
      replace HS : Hid (Src v1 sv9 (.slice ao n cap) k9 p) := by rw [hv]; exact (HS.out.set hnu.out (by have := hnuh.out; omega) _).set hnu.out (by have := hnuh.out; omega) _
      replace B0 : Hid (Blk sv9 (w.heap.size) #[.int .i64 0, .int .i64 0] 32) := by show Blk _ _ _ _; rw [hv]; exact Blk.setOther (Blk.setOther B0.out (hnuB0.out.symm) _) (hnuB0.out.symm) _
      replace B1 : Hid (Blk sv9 (w.heap.size + 1) #[.int .i64 0, .int .i64 0] 32) := by show Blk _ _ _ _; rw [hv]; exact Blk.setOther (Blk.setOther B1.out (hnuB1.out.symm) _) (hnuB1.out.symm) _
      replace B2 : Hid (Blk sv9 (w.heap.size + 1 + 1) #[.int .i64 0, .int .i64 0] 32) := by show Blk _ _ _ _; rw [hv]; exact Blk.setOther (Blk.setOther B2.out (hnuB2.out.symm) _) (hnuB2.out.symm) _
      replace BT : Hid (Blk sv9 (P) #[.int .i64 x1.n, .int .i64 x1.d] 32) := by show Blk _ _ _ _; rw [hv]; exact Blk.setOther (Blk.setOther BT.out (hnuBT.out.symm) _) (hnuBT.out.symm) _
      clear hv c0 c1 f0 f1
      have hx0 : Blk sv9 P #[.int .i64 x1.n, .int .i64 x1.d] 32 ∧ Blk sv9 R #[.int .i64 y2.n, .int .i64 y2.d] 32 := ⟨BT.out, BU.out⟩
      have e0 : ∀ W, (Blk W P #[.int .i64 x1.n, .int .i64 x1.d] 32 ∧ Blk W R #[.int .i64 y2.n, .int .i64 y2.d] 32) → W.cell? ⟨P, 0, none⟩ = some (.int .i64 x1.n) := fun _ h => h.1.cell (j := 0) rfl
      have e1 : ∀ W, (Blk W P #[.int .i64 x1.n, .int .i64 x1.d] 32 ∧ Blk W R #[.int .i64 y2.n, .int .i64 y2.d] 32) → W.cell? ⟨P, 1, none⟩ = some (.int .i64 x1.d) := fun _ h => h.1.cell (j := 1) rfl
      have e2 : ∀ W, (Blk W P #[.int .i64 x1.n, .int .i64 x1.d] 32 ∧ Blk W R #[.int .i64 y2.n, .int .i64 y2.d] 32) → W.cell? ⟨R, 0, none⟩ = some (.int .i64 y2.n) := fun _ h => h.2.cell (j := 0) rfl
      have e3 : ∀ W, (Blk W P #[.int .i64 x1.n, .int .i64 x1.d] 32 ∧ Blk W R #[.int .i64 y2.n, .int .i64 y2.d] 32) → W.cell? ⟨R, 1, none⟩ = some (.int .i64 y2.d) := fun _ h => h.2.cell (j := 1) rfl
      go_upto_region 8 with fail
      go_region_held (fun W => Blk W P #[.int .i64 x1.n, .int .i64 x1.d] 32 ∧ Blk W R #[.int .i64 y2.n, .int .i64 y2.d] 32) (first | with_reducible assumption | with_reducible exact ⟨Blk.drew ‹_ ∧ _›.1, Blk.drew ‹_ ∧ _›.2⟩ | with_reducible exact ⟨Blk.setOther (Blk.setOther ‹_ ∧ _›.1 hntB0.out _) hntB0.out _, Blk.setOther (Blk.setOther ‹_ ∧ _›.2 hnuB0.out _) hnuB0.out _⟩ | with_reducible exact ⟨Blk.setOther (Blk.setOther ‹_ ∧ _›.1 hntB1.out _) hntB1.out _, Blk.setOther (Blk.setOther ‹_ ∧ _›.2 hnuB1.out _) hnuB1.out _⟩ | with_reducible exact ⟨Blk.setOther (Blk.setOther ‹_ ∧ _›.1 hntB2.out _) hntB2.out _, Blk.setOther (Blk.setOther ‹_ ∧ _›.2 hnuB2.out _) hnuB2.out _⟩)
        (first | (go_at_call 104; refine (plain_any _ _ _ _ _ (Src.drew HS.out) (HN.out p) (by have := HK.out; omega) (by have := HK.out; omega)).mono ?_; rintro e w1 ⟨z, k2, rfl, zBz, _, hs1, hb1⟩; have hR1 : Blk w1 P #[.int .i64 x1.n, .int .i64 x1.d] 32 ∧ Blk w1 R #[.int .i64 y2.n, .int .i64 y2.d] 32 := ⟨hb1.keep BT.out hnt.out, hb1.keep BU.out hnu.out⟩; have D0 : Blk w1 w.heap.size #[.int .i64 0, .int .i64 0] 32 := hb1.keep B0.out h0n.out; have D1 : Blk w1 (w.heap.size + 1) #[.int .i64 0, .int .i64 0] 32 := hb1.keep B1.out h1n.out; have D2 : Blk w1 (w.heap.size + 1 + 1) #[.int .i64 0, .int .i64 0] 32 := hb1.keep B2.out h2n.out; have HB1 : Hid (Below v1.heap.size v1 w1) := hs1.below; have ZB : Hid (QB 1000000000 z) := zBz; clear hs1 hb1 zBz; have c0 := D0.cell (j := 0) rfl; have c1 := D0.cell (j := 1) rfl; have d0 := D1.cell (j := 0) rfl; have d1 := D1.cell (j := 1) rfl; have g0 := D2.cell (j := 0) rfl; have g1 := D2.cell (j := 1) rfl; have cf := D0.frozen; have df := D1.frozen; have gf := D2.frozen; have cz := D0.lt; have dz := D1.lt; have gz := D2.lt))
      all_goals
        go_wp2
        refine bodyPost_ret (v := .tuple #[.agg #[.int .i64 x1.n, .int .i64 x1.d], .agg #[.int .i64 y2.n, .int .i64 y2.d], .agg #[.int .i64 z.n, .int .i64 z.d]]) (by simp [results, Try.results59, go_sem, c0, c1, d0, d1, g0, g1, cf, df, gf, cz, dz, gz] <;> (repeat' (first | rfl | apply And.intro))) rfl ⟨x1, y2, z, rfl, ⟨qb_up zBx1 (by omega), qb_up zBy2 (by omega), qb_up ZB.out (by omega)⟩, ?_⟩
        have h := H1.out.trans (HB1.out.mono H1.out.size)
        go_grown
  | true =>
    go_wp2_with fail
    refine (bent_any _ _ _ _ _ HS.out (HN.out p) (by have := HK.out; omega) (by have := HK.out; omega)).mono ?_
    rintro e vA ⟨x2, kA, rfl, zBx2, ⟨k0, k1⟩, hs, hb⟩
    replace HS : Hid (Src v1 vA (.slice ao n cap) kA p) := hs
    replace B0 : Hid (Blk vA (w.heap.size) #[.int .i64 0, .int .i64 0] 32) := hb.keep B0.out h0n.out
    replace B1 : Hid (Blk vA (w.heap.size + 1) #[.int .i64 0, .int .i64 0] 32) := hb.keep B1.out h1n.out
    replace B2 : Hid (Blk vA (w.heap.size + 1 + 1) #[.int .i64 0, .int .i64 0] 32) := hb.keep B2.out h2n.out
    replace BT : Hid (Blk vA (P) #[.int .i64 x1.n, .int .i64 x1.d] 32) := hb.keep BT.out hnt.out
    replace HK : Hid (0 ≤ kA ∧ kA ≤ 9) := by have := HK.out; exact ⟨by omega, by omega⟩
    clear hs hb k0 k1
    have c0 := BT.out.cell (j := 0) rfl
    have c1 := BT.out.cell (j := 1) rfl
    have f0 := BT.out.frozen 0
    have f1 := BT.out.frozen 1
    go_upto_region 5 with fail
    obtain ⟨svA, hv⟩ : ∃ X, X = (vA.setCell ⟨P, 0, none⟩ (.int .i64 x2.n)).setCell ⟨P, 1, none⟩ (.int .i64 x2.d) := ⟨_, rfl⟩
    rw [← hv]
    replace BT : Hid (Blk svA P #[.int .i64 x2.n, .int .i64 x2.d] 32) := by show Blk _ _ _ _; rw [hv]; exact Blk.two BT.out _ _
    replace HS : Hid (Src v1 svA (.slice ao n cap) kA p) := by rw [hv]; exact (HS.out.set hnt.out (by have := hnth.out; omega) _).set hnt.out (by have := hnth.out; omega) _
    replace B0 : Hid (Blk svA (w.heap.size) #[.int .i64 0, .int .i64 0] 32) := by show Blk _ _ _ _; rw [hv]; exact Blk.setOther (Blk.setOther B0.out (hntB0.out.symm) _) (hntB0.out.symm) _
    replace B1 : Hid (Blk svA (w.heap.size + 1) #[.int .i64 0, .int .i64 0] 32) := by show Blk _ _ _ _; rw [hv]; exact Blk.setOther (Blk.setOther B1.out (hntB1.out.symm) _) (hntB1.out.symm) _
    replace B2 : Hid (Blk svA (w.heap.size + 1 + 1) #[.int .i64 0, .int .i64 0] 32) := by show Blk _ _ _ _; rw [hv]; exact Blk.setOther (Blk.setOther B2.out (hntB2.out.symm) _) (hntB2.out.symm) _
    clear hv c0 c1 f0 f1
    go_wp2_with fail
    refine (plain_any _ _ _ _ _ HS.out (HN.out p) (by have := HK.out; omega) (by have := HK.out; omega)).mono ?_
    rintro e v6 ⟨y1, k6, rfl, zBy1, ⟨k0, k1⟩, hs, hb⟩
    replace HS : Hid (Src v1 v6 (.slice ao n cap) k6 p) := hs
    replace B0 : Hid (Blk v6 (w.heap.size) #[.int .i64 0, .int .i64 0] 32) := hb.keep B0.out h0n.out
    replace B1 : Hid (Blk v6 (w.heap.size + 1) #[.int .i64 0, .int .i64 0] 32) := hb.keep B1.out h1n.out
    replace B2 : Hid (Blk v6 (w.heap.size + 1 + 1) #[.int .i64 0, .int .i64 0] 32) := hb.keep B2.out h2n.out
    replace BT : Hid (Blk v6 (P) #[.int .i64 x2.n, .int .i64 x2.d] 32) := hb.keep BT.out hnt.out
    replace HK : Hid (0 ≤ k6 ∧ k6 ≤ 14) := by have := HK.out; exact ⟨by omega, by omega⟩
    clear hs hb k0 k1
    go_upto_region 6 with fail
    obtain ⟨R, hR⟩ : ∃ P, P = v6.heap.size := ⟨_, rfl⟩
    have hnu : Hid (R ≠ p) := by show _ ≠ _; have := HS.out.lt; omega
    have hnuh : Hid (v1.heap.size ≤ R) := by show _ ≤ _; have := HS.out.below.size; omega
    have hnuB0 : Hid (R ≠ w.heap.size) := by show _ ≠ _; have := B0.out.lt; omega
    have hnuB1 : Hid (R ≠ w.heap.size + 1) := by show _ ≠ _; have := B1.out.lt; omega
    have hnuB2 : Hid (R ≠ w.heap.size + 1 + 1) := by show _ ≠ _; have := B2.out.lt; omega
    have hnuBT : Hid (R ≠ P) := by show _ ≠ _; have := BT.out.lt; omega
    obtain ⟨v7, hv⟩ : ∃ X, X = v6.alloc (.cells #[.int .i64 y1.n, .int .i64 y1.d] 32) := ⟨_, rfl⟩
    rw [← hv, ← hR]
    have BU : Hid (Blk v7 R #[.int .i64 y1.n, .int .i64 y1.d] 32) := by show Blk _ _ _ _; rw [hv]; exact Blk.new hR
    replace HS : Hid (Src v1 v7 (.slice ao n cap) k6 p) := by rw [hv]; exact HS.out.alloc _
    replace B0 : Hid (Blk v7 (w.heap.size) #[.int .i64 0, .int .i64 0] 32) := by show Blk _ _ _ _; rw [hv]; exact Blk.alloc B0.out _
    replace B1 : Hid (Blk v7 (w.heap.size + 1) #[.int .i64 0, .int .i64 0] 32) := by show Blk _ _ _ _; rw [hv]; exact Blk.alloc B1.out _
    replace B2 : Hid (Blk v7 (w.heap.size + 1 + 1) #[.int .i64 0, .int .i64 0] 32) := by show Blk _ _ _ _; rw [hv]; exact Blk.alloc B2.out _
    replace BT : Hid (Blk v7 (P) #[.int .i64 x2.n, .int .i64 x2.d] 32) := by show Blk _ _ _ _; rw [hv]; exact Blk.alloc BT.out _
    clear hv hR
    go_wp2_with fail
    refine (chance_any HS.out (HN.out p) (by have := HK.out; omega) (by have := HK.out; omega) 20 (by omega) (by omega)).mono ?_
    rintro e v8 ⟨b, rfl, hs, hb⟩
    replace HS : Hid (Src v1 v8 (.slice ao n cap) (k6 + 1) p) := hs
    replace B0 : Hid (Blk v8 (w.heap.size) #[.int .i64 0, .int .i64 0] 32) := hb.keep B0.out h0n.out
    replace B1 : Hid (Blk v8 (w.heap.size + 1) #[.int .i64 0, .int .i64 0] 32) := hb.keep B1.out h1n.out
    replace B2 : Hid (Blk v8 (w.heap.size + 1 + 1) #[.int .i64 0, .int .i64 0] 32) := hb.keep B2.out h2n.out
    replace BT : Hid (Blk v8 (P) #[.int .i64 x2.n, .int .i64 x2.d] 32) := hb.keep BT.out hnt.out
    replace BU : Hid (Blk v8 (R) #[.int .i64 y1.n, .int .i64 y1.d] 32) := hb.keep BU.out hnu.out
    clear hs hb
    cases b with
    | false =>
      replace HK : Hid (0 ≤ k6 + 1 ∧ k6 + 1 ≤ 15) := by have := HK.out; exact ⟨by omega, by omega⟩
      have hx0 : Blk v8 P #[.int .i64 x2.n, .int .i64 x2.d] 32 ∧ Blk v8 R #[.int .i64 y1.n, .int .i64 y1.d] 32 := ⟨BT.out, BU.out⟩
      have e0 : ∀ W, (Blk W P #[.int .i64 x2.n, .int .i64 x2.d] 32 ∧ Blk W R #[.int .i64 y1.n, .int .i64 y1.d] 32) → W.cell? ⟨P, 0, none⟩ = some (.int .i64 x2.n) := fun _ h => h.1.cell (j := 0) rfl
      have e1 : ∀ W, (Blk W P #[.int .i64 x2.n, .int .i64 x2.d] 32 ∧ Blk W R #[.int .i64 y1.n, .int .i64 y1.d] 32) → W.cell? ⟨P, 1, none⟩ = some (.int .i64 x2.d) := fun _ h => h.1.cell (j := 1) rfl
      have e2 : ∀ W, (Blk W P #[.int .i64 x2.n, .int .i64 x2.d] 32 ∧ Blk W R #[.int .i64 y1.n, .int .i64 y1.d] 32) → W.cell? ⟨R, 0, none⟩ = some (.int .i64 y1.n) := fun _ h => h.2.cell (j := 0) rfl
      have e3 : ∀ W, (Blk W P #[.int .i64 x2.n, .int .i64 x2.d] 32 ∧ Blk W R #[.int .i64 y1.n, .int .i64 y1.d] 32) → W.cell? ⟨R, 1, none⟩ = some (.int .i64 y1.d) := fun _ h => h.2.cell (j := 1) rfl
      go_upto_region 8 with fail
      go_region_held (fun W => Blk W P #[.int .i64 x2.n, .int .i64 x2.d] 32 ∧ Blk W R #[.int .i64 y1.n, .int .i64 y1.d] 32) (first | with_reducible assumption | with_reducible exact ⟨Blk.drew ‹_ ∧ _›.1, Blk.drew ‹_ ∧ _›.2⟩ | with_reducible exact ⟨Blk.setOther (Blk.setOther ‹_ ∧ _›.1 hntB0.out _) hntB0.out _, Blk.setOther (Blk.setOther ‹_ ∧ _›.2 hnuB0.out _) hnuB0.out _⟩ | with_reducible exact ⟨Blk.setOther (Blk.setOther ‹_ ∧ _›.1 hntB1.out _) hntB1.out _, Blk.setOther (Blk.setOther ‹_ ∧ _›.2 hnuB1.out _) hnuB1.out _⟩ | with_reducible exact ⟨Blk.setOther (Blk.setOther ‹_ ∧ _›.1 hntB2.out _) hntB2.out _, Blk.setOther (Blk.setOther ‹_ ∧ _›.2 hnuB2.out _) hnuB2.out _⟩)
        (first | (go_at_call 104; refine (plain_any _ _ _ _ _ (Src.drew HS.out) (HN.out p) (by have := HK.out; omega) (by have := HK.out; omega)).mono ?_; rintro e w1 ⟨z, k2, rfl, zBz, _, hs1, hb1⟩; have hR1 : Blk w1 P #[.int .i64 x2.n, .int .i64 x2.d] 32 ∧ Blk w1 R #[.int .i64 y1.n, .int .i64 y1.d] 32 := ⟨hb1.keep BT.out hnt.out, hb1.keep BU.out hnu.out⟩; have D0 : Blk w1 w.heap.size #[.int .i64 0, .int .i64 0] 32 := hb1.keep B0.out h0n.out; have D1 : Blk w1 (w.heap.size + 1) #[.int .i64 0, .int .i64 0] 32 := hb1.keep B1.out h1n.out; have D2 : Blk w1 (w.heap.size + 1 + 1) #[.int .i64 0, .int .i64 0] 32 := hb1.keep B2.out h2n.out; have HB1 : Hid (Below v1.heap.size v1 w1) := hs1.below; have ZB : Hid (QB 1000000000 z) := zBz; clear hs1 hb1 zBz; have c0 := D0.cell (j := 0) rfl; have c1 := D0.cell (j := 1) rfl; have d0 := D1.cell (j := 0) rfl; have d1 := D1.cell (j := 1) rfl; have g0 := D2.cell (j := 0) rfl; have g1 := D2.cell (j := 1) rfl; have cf := D0.frozen; have df := D1.frozen; have gf := D2.frozen; have cz := D0.lt; have dz := D1.lt; have gz := D2.lt))
      all_goals
        go_wp2
        refine bodyPost_ret (v := .tuple #[.agg #[.int .i64 x2.n, .int .i64 x2.d], .agg #[.int .i64 y1.n, .int .i64 y1.d], .agg #[.int .i64 z.n, .int .i64 z.d]]) (by simp [results, Try.results59, go_sem, c0, c1, d0, d1, g0, g1, cf, df, gf, cz, dz, gz] <;> (repeat' (first | rfl | apply And.intro))) rfl ⟨x2, y1, z, rfl, ⟨qb_up zBx2 (by omega), qb_up zBy1 (by omega), qb_up ZB.out (by omega)⟩, ?_⟩
        have h := H1.out.trans (HB1.out.mono H1.out.size)
        go_grown
    | true =>
      go_wp2_with fail
      refine (bent_any _ _ _ _ _ HS.out (HN.out p) (by have := HK.out; omega) (by have := HK.out; omega)).mono ?_
      rintro e v9 ⟨y2, k9, rfl, zBy2, ⟨k0, k1⟩, hs, hb⟩
      replace HS : Hid (Src v1 v9 (.slice ao n cap) k9 p) := hs
      replace B0 : Hid (Blk v9 (w.heap.size) #[.int .i64 0, .int .i64 0] 32) := hb.keep B0.out h0n.out
      replace B1 : Hid (Blk v9 (w.heap.size + 1) #[.int .i64 0, .int .i64 0] 32) := hb.keep B1.out h1n.out
      replace B2 : Hid (Blk v9 (w.heap.size + 1 + 1) #[.int .i64 0, .int .i64 0] 32) := hb.keep B2.out h2n.out
      replace BT : Hid (Blk v9 (P) #[.int .i64 x2.n, .int .i64 x2.d] 32) := hb.keep BT.out hnt.out
      replace BU : Hid (Blk v9 (R) #[.int .i64 y1.n, .int .i64 y1.d] 32) := hb.keep BU.out hnu.out
      replace HK : Hid (0 ≤ k9 ∧ k9 ≤ 21) := by have := HK.out; exact ⟨by omega, by omega⟩
      clear hs hb k0 k1
      have c0 := BU.out.cell (j := 0) rfl
      have c1 := BU.out.cell (j := 1) rfl
      have f0 := BU.out.frozen 0
      have f1 := BU.out.frozen 1
      go_upto_region 8 with fail
      obtain ⟨sv9, hv⟩ : ∃ X, X = (v9.setCell ⟨R, 0, none⟩ (.int .i64 y2.n)).setCell ⟨R, 1, none⟩ (.int .i64 y2.d) := ⟨_, rfl⟩
      rw [← hv]
      replace BU : Hid (Blk sv9 R #[.int .i64 y2.n, .int .i64 y2.d] 32) := by show Blk _ _ _ _; rw [hv]; exact Blk.two BU.out _ _
      replace HS : Hid (Src v1 sv9 (.slice ao n cap) k9 p) := by rw [hv]; exact (HS.out.set hnu.out (by have := hnuh.out; omega) _).set hnu.out (by have := hnuh.out; omega) _
      replace B0 : Hid (Blk sv9 (w.heap.size) #[.int .i64 0, .int .i64 0] 32) := by show Blk _ _ _ _; rw [hv]; exact Blk.setOther (Blk.setOther B0.out (hnuB0.out.symm) _) (hnuB0.out.symm) _
      replace B1 : Hid (Blk sv9 (w.heap.size + 1) #[.int .i64 0, .int .i64 0] 32) := by show Blk _ _ _ _; rw [hv]; exact Blk.setOther (Blk.setOther B1.out (hnuB1.out.symm) _) (hnuB1.out.symm) _
      replace B2 : Hid (Blk sv9 (w.heap.size + 1 + 1) #[.int .i64 0, .int .i64 0] 32) := by show Blk _ _ _ _; rw [hv]; exact Blk.setOther (Blk.setOther B2.out (hnuB2.out.symm) _) (hnuB2.out.symm) _
      replace BT : Hid (Blk sv9 (P) #[.int .i64 x2.n, .int .i64 x2.d] 32) := by show Blk _ _ _ _; rw [hv]; exact Blk.setOther (Blk.setOther BT.out (hnuBT.out.symm) _) (hnuBT.out.symm) _
      clear hv c0 c1 f0 f1
      have hx0 : Blk sv9 P #[.int .i64 x2.n, .int .i64 x2.d] 32 ∧ Blk sv9 R #[.int .i64 y2.n, .int .i64 y2.d] 32 := ⟨BT.out, BU.out⟩
      have e0 : ∀ W, (Blk W P #[.int .i64 x2.n, .int .i64 x2.d] 32 ∧ Blk W R #[.int .i64 y2.n, .int .i64 y2.d] 32) → W.cell? ⟨P, 0, none⟩ = some (.int .i64 x2.n) := fun _ h => h.1.cell (j := 0) rfl
      have e1 : ∀ W, (Blk W P #[.int .i64 x2.n, .int .i64 x2.d] 32 ∧ Blk W R #[.int .i64 y2.n, .int .i64 y2.d] 32) → W.cell? ⟨P, 1, none⟩ = some (.int .i64 x2.d) := fun _ h => h.1.cell (j := 1) rfl
      have e2 : ∀ W, (Blk W P #[.int .i64 x2.n, .int .i64 x2.d] 32 ∧ Blk W R #[.int .i64 y2.n, .int .i64 y2.d] 32) → W.cell? ⟨R, 0, none⟩ = some (.int .i64 y2.n) := fun _ h => h.2.cell (j := 0) rfl
      have e3 : ∀ W, (Blk W P #[.int .i64 x2.n, .int .i64 x2.d] 32 ∧ Blk W R #[.int .i64 y2.n, .int .i64 y2.d] 32) → W.cell? ⟨R, 1, none⟩ = some (.int .i64 y2.d) := fun _ h => h.2.cell (j := 1) rfl
      go_upto_region 8 with fail
      go_region_held (fun W => Blk W P #[.int .i64 x2.n, .int .i64 x2.d] 32 ∧ Blk W R #[.int .i64 y2.n, .int .i64 y2.d] 32) (first | with_reducible assumption | with_reducible exact ⟨Blk.drew ‹_ ∧ _›.1, Blk.drew ‹_ ∧ _›.2⟩ | with_reducible exact ⟨Blk.setOther (Blk.setOther ‹_ ∧ _›.1 hntB0.out _) hntB0.out _, Blk.setOther (Blk.setOther ‹_ ∧ _›.2 hnuB0.out _) hnuB0.out _⟩ | with_reducible exact ⟨Blk.setOther (Blk.setOther ‹_ ∧ _›.1 hntB1.out _) hntB1.out _, Blk.setOther (Blk.setOther ‹_ ∧ _›.2 hnuB1.out _) hnuB1.out _⟩ | with_reducible exact ⟨Blk.setOther (Blk.setOther ‹_ ∧ _›.1 hntB2.out _) hntB2.out _, Blk.setOther (Blk.setOther ‹_ ∧ _›.2 hnuB2.out _) hnuB2.out _⟩)
        (first | (go_at_call 104; refine (plain_any _ _ _ _ _ (Src.drew HS.out) (HN.out p) (by have := HK.out; omega) (by have := HK.out; omega)).mono ?_; rintro e w1 ⟨z, k2, rfl, zBz, _, hs1, hb1⟩; have hR1 : Blk w1 P #[.int .i64 x2.n, .int .i64 x2.d] 32 ∧ Blk w1 R #[.int .i64 y2.n, .int .i64 y2.d] 32 := ⟨hb1.keep BT.out hnt.out, hb1.keep BU.out hnu.out⟩; have D0 : Blk w1 w.heap.size #[.int .i64 0, .int .i64 0] 32 := hb1.keep B0.out h0n.out; have D1 : Blk w1 (w.heap.size + 1) #[.int .i64 0, .int .i64 0] 32 := hb1.keep B1.out h1n.out; have D2 : Blk w1 (w.heap.size + 1 + 1) #[.int .i64 0, .int .i64 0] 32 := hb1.keep B2.out h2n.out; have HB1 : Hid (Below v1.heap.size v1 w1) := hs1.below; have ZB : Hid (QB 1000000000 z) := zBz; clear hs1 hb1 zBz; have c0 := D0.cell (j := 0) rfl; have c1 := D0.cell (j := 1) rfl; have d0 := D1.cell (j := 0) rfl; have d1 := D1.cell (j := 1) rfl; have g0 := D2.cell (j := 0) rfl; have g1 := D2.cell (j := 1) rfl; have cf := D0.frozen; have df := D1.frozen; have gf := D2.frozen; have cz := D0.lt; have dz := D1.lt; have gz := D2.lt))
      all_goals
        go_wp2
        refine bodyPost_ret (v := .tuple #[.agg #[.int .i64 x2.n, .int .i64 x2.d], .agg #[.int .i64 y2.n, .int .i64 y2.d], .agg #[.int .i64 z.n, .int .i64 z.d]]) (by simp [results, Try.results59, go_sem, c0, c1, d0, d1, g0, g1, cf, df, gf, cz, dz, gz] <;> (repeat' (first | rfl | apply And.intro))) rfl ⟨x2, y2, z, rfl, ⟨qb_up zBx2 (by omega), qb_up zBy2 (by omega), qb_up ZB.out (by omega)⟩, ?_⟩
        have h := H1.out.trans (HB1.out.mono H1.out.size)
        go_grown
end Go.Proofs.Ytkkajcdjkfbcgaa
