/- Lights out of drawn bytes. -/
import Derived.Test.YtloebnlmeplgbaaDw
import Derived.Handy
namespace Go.Proofs.Ytloebnlmeplgbaa
open Go.RowKit
set_option linter.unusedVariables false
set_option linter.unusedSimpArgs false
theorem Src.drew {w0 w : World} {v : Value} {a : Int} {p : Nat} (h : Src w0 w v a p) : Src w0 w.drew v a p := ⟨h.below.drew, h.new, h.code, h.here, h.free⟩
theorem Bu.drew {p : Nat} {w w' : World} (h : Bu p w w') : Bu p w w'.drew := ⟨h.size, h.blk⟩
set_option maxRecDepth 20000 in
set_option maxHeartbeats 1600000 in
theorem light_any {w0 w : World} {v : Value} {a : Int} {p : Nat} (hS : Src w0 w v a p) (NX : Nexts w0 v p) (h0 : 0 ≤ a) (h1 : a ≤ 700) :
    Calls Try.prog 63 #[.pointer (some ⟨p, 0, none⟩)] w fun e w' => ∃ (l : Jn) (k : Int), e = .returned (.agg #[.int .i64 l.x.re, .int .i64 l.x.im, .int .i64 l.y.re, .int .i64 l.y.im]) ∧ 0 ≤ k ∧ k ≤ 7 ∧ Src w0 w' v (a + k) p ∧ Bu p w w' := by
  have HA : Hid (0 ≤ a ∧ a ≤ 700) := ⟨h0, h1⟩
  have HN : Hid (Nexts w0 v p) := NX
  have hpw : Hid (p < w.heap.size) := hS.lt
  have HL : Hid (w0.heap.size ≤ w.heap.size) := hS.below.size
  have hnr : Hid (w.heap.size ≠ p) := by show _ ≠ _; have := hpw.out; omega
  clear h0 h1 NX
  go_enter Try.func63, Try.ntmps63
  go_upto_region 1 with fail
  obtain ⟨v1, hv⟩ : ∃ X, X = w.alloc (.cells #[.int .i64 0, .int .i64 0, .int .i64 0, .int .i64 0] 29) := ⟨_, rfl⟩
  rw [← hv]
  have HS : Hid (Src w0 v1 v a p) := by rw [hv]; exact hS.alloc _
  have HB : Hid (Bu p w v1) := by rw [hv]; exact (Bu.refl _ _).alloc _
  have BR : Hid (Blk v1 w.heap.size #[.int .i64 0, .int .i64 0, .int .i64 0, .int .i64 0] 29) := by show Blk _ _ _ _; rw [hv]; exact Blk.new rfl
  clear hv hS
  go_wp2_with fail
  refine (g_any HS.out HN.out HA.out.1 (by have := HA.out; omega)).mono ?_
  rintro e v2 ⟨g, k, rfl, k0, k1, hs2, hb2⟩
  have HK : Hid (0 ≤ k ∧ k ≤ 3) := ⟨k0, k1⟩
  replace HS : Hid (Src w0 v2 v (a + k) p) := hs2
  replace BR : Hid (Blk v2 w.heap.size #[.int .i64 0, .int .i64 0, .int .i64 0, .int .i64 0] 29) := hb2.keep BR.out hnr.out
  replace HB : Hid (Bu p w v2) := HB.out.trans hb2
  clear hs2 hb2 k0 k1
  have hnx : Hid (v2.heap.size ≠ p) := by show _ ≠ _; have := HS.out.lt; omega
  have lx : Hid (w0.heap.size ≤ v2.heap.size) := HS.out.below.size
  have lw : Hid (w.heap.size ≤ v2.heap.size) := HB.out.size
  have hxr : Hid (v2.heap.size ≠ w.heap.size) := by show _ ≠ _; have := BR.out.lt; omega
  go_upto_region 2 with fail
  obtain ⟨v2b, hv⟩ : ∃ X, X = v2.alloc (.cells #[.int .i64 g.re, .int .i64 g.im] 25) := ⟨_, rfl⟩
  rw [← hv]
  have BX : Hid (Blk v2b v2.heap.size #[.int .i64 g.re, .int .i64 g.im] 25) := by show Blk _ _ _ _; rw [hv]; exact Blk.new rfl
  replace HS : Hid (Src w0 v2b v (a + k) p) := by rw [hv]; exact HS.out.alloc _
  replace BR : Hid (Blk v2b w.heap.size #[.int .i64 0, .int .i64 0, .int .i64 0, .int .i64 0] 29) := by show Blk _ _ _ _; rw [hv]; exact Blk.alloc BR.out _
  replace HB : Hid (Bu p w v2b) := by rw [hv]; exact HB.out.alloc _
  clear hv
  go_wp2_with fail
  refine (chance_any HS.out HN.out (by have := HA.out; have := HK.out; omega) (by have := HA.out; have := HK.out; omega) 5 (by omega) (by omega)).mono ?_
  rintro e v3 ⟨b, rfl, hs3, hb3⟩
  replace HS : Hid (Src w0 v3 v (a + k + 1) p) := hs3
  replace BR : Hid (Blk v3 w.heap.size #[.int .i64 0, .int .i64 0, .int .i64 0, .int .i64 0] 29) := hb3.keep BR.out hnr.out
  replace BX : Hid (Blk v3 v2.heap.size #[.int .i64 g.re, .int .i64 g.im] 25) := hb3.keep BX.out hnx.out
  replace HB : Hid (Bu p w v3) := HB.out.trans hb3
  clear hs3 hb3
  cases b with
  | true =>
    have x0 := BX.out.cell (j := 0) rfl
    have x1 := BX.out.cell (j := 1) rfl
    have xf := BX.out.frozen
    have xz := BX.out.lt
    go_upto_region 4 with fail
    clear x0 x1 xf xz
    obtain ⟨v4, hv⟩ : ∃ X, X = (v3.setCell ⟨v2.heap.size, 0, none⟩ (.int .i64 0)).setCell ⟨v2.heap.size, 1, none⟩ (.int .i64 0) := ⟨_, rfl⟩
    rw [← hv]
    have HS4 : Hid (Src w0 v4 v (a + k + 1) p) := by rw [hv]; exact (HS.out.set hnx.out lx.out _).set hnx.out lx.out _
    have HB4 : Hid (Bu p w v4) := by rw [hv]; exact (HB.out.set lw.out _).set lw.out _
    have BR4 : Hid (Blk v4 w.heap.size #[.int .i64 0, .int .i64 0, .int .i64 0, .int .i64 0] 29) := by show Blk _ _ _ _; rw [hv]; exact Blk.setOther (Blk.setOther BR.out hxr.out.symm _) hxr.out.symm _
    have BX4 : Hid (Blk v4 v2.heap.size #[.int .i64 0, .int .i64 0] 25) := by show Blk _ _ _ _; rw [hv]; exact Blk.set (Blk.set BX.out _ _ rfl) _ _ rfl
    clear hv
    clear HS HB BR BX
    have kx0 : ∀ W, Blk W v2.heap.size #[.int .i64 0, .int .i64 0] 25 → W.cell? ⟨v2.heap.size, 0, none⟩ = some (.int .i64 0) := fun _ h => h.cell (j := 0) rfl
    have kx1 : ∀ W, Blk W v2.heap.size #[.int .i64 0, .int .i64 0] 25 → W.cell? ⟨v2.heap.size, 1, none⟩ = some (.int .i64 0) := fun _ h => h.cell (j := 1) rfl
    have hx0 := BX4.out
    go_region_held (fun W => Blk W v2.heap.size #[.int .i64 0, .int .i64 0] 25) (first | with_reducible assumption | with_reducible exact Blk.drew ‹_› | with_reducible exact Blk.setOther (Blk.setOther (Blk.setOther (Blk.setOther ‹_› hxr.out _) hxr.out _) hxr.out _) hxr.out _)
      (first | (go_at_call 94; refine (g_any (Src.drew HS4.out) HN.out (by have := HA.out; have := HK.out; omega) (by have := HA.out; have := HK.out; omega)).mono ?_; rintro e w1 ⟨g2, k2, rfl, k20, k21, hs1, hb1⟩; have hR1 : Blk w1 v2.heap.size #[.int .i64 0, .int .i64 0] 25 := hb1.keep BX4.out hnx.out; have BR1 : Hid (Blk w1 w.heap.size #[.int .i64 0, .int .i64 0, .int .i64 0, .int .i64 0] 29) := hb1.keep BR4.out hnr.out; have HS1 : Hid (Src w0 w1 v (a + k + 1 + k2) p) := hs1; have HB1 : Hid (Bu p w w1) := HB4.out.trans ((Bu.drew (Bu.refl _ _)).trans hb1); clear hs1 hb1; have c0 := BR1.out.cell (j := 0) rfl; have c1 := BR1.out.cell (j := 1) rfl; have c2 := BR1.out.cell (j := 2) rfl; have c3 := BR1.out.cell (j := 3) rfl; have cf := BR1.out.frozen; have cz := BR1.out.lt))
    clear kx0 kx1 hx0 BX4
    go_wp2
    refine bodyPost_ret (v := .agg #[.int .i64 0, .int .i64 0, .int .i64 g2.re, .int .i64 g2.im]) (by simp [results, Try.results63, go_sem, c0, c1, c2, c3, cf, cz] <;> (repeat' (first | rfl | apply And.intro))) rfl ⟨⟨⟨0, 0⟩, g2⟩, k + 1 + k2, rfl, by have := HK.out; omega, by have := HK.out; omega, ?_, ?_⟩
    · rw [show a + (k + 1 + k2) = a + k + 1 + k2 by omega]
      exact (((HS1.out.set hnr.out HL.out _ (j := 0)).set hnr.out HL.out _ (j := 1)).set hnr.out HL.out _ (j := 2)).set hnr.out HL.out _ (j := 3)
    · exact (((HB1.out.set (Nat.le_refl _) _).set (Nat.le_refl _) _).set (Nat.le_refl _) _).set (Nat.le_refl _) _
  | false =>
    go_upto_region 4 with fail
    obtain ⟨v4, hv⟩ : ∃ X, X = v3 := ⟨_, rfl⟩
    rw [← hv] at HS HB BR BX ⊢
    have HS4 := HS
    have HB4 := HB
    have BR4 := BR
    have BX4 := BX
    clear hv
    clear HS HB BR BX
    have kx0 : ∀ W, Blk W v2.heap.size #[.int .i64 g.re, .int .i64 g.im] 25 → W.cell? ⟨v2.heap.size, 0, none⟩ = some (.int .i64 g.re) := fun _ h => h.cell (j := 0) rfl
    have kx1 : ∀ W, Blk W v2.heap.size #[.int .i64 g.re, .int .i64 g.im] 25 → W.cell? ⟨v2.heap.size, 1, none⟩ = some (.int .i64 g.im) := fun _ h => h.cell (j := 1) rfl
    have hx0 := BX4.out
    go_region_held (fun W => Blk W v2.heap.size #[.int .i64 g.re, .int .i64 g.im] 25) (first | with_reducible assumption | with_reducible exact Blk.drew ‹_› | with_reducible exact Blk.setOther (Blk.setOther (Blk.setOther (Blk.setOther ‹_› hxr.out _) hxr.out _) hxr.out _) hxr.out _)
      (first | (go_at_call 94; refine (g_any (Src.drew HS4.out) HN.out (by have := HA.out; have := HK.out; omega) (by have := HA.out; have := HK.out; omega)).mono ?_; rintro e w1 ⟨g2, k2, rfl, k20, k21, hs1, hb1⟩; have hR1 : Blk w1 v2.heap.size #[.int .i64 g.re, .int .i64 g.im] 25 := hb1.keep BX4.out hnx.out; have BR1 : Hid (Blk w1 w.heap.size #[.int .i64 0, .int .i64 0, .int .i64 0, .int .i64 0] 29) := hb1.keep BR4.out hnr.out; have HS1 : Hid (Src w0 w1 v (a + k + 1 + k2) p) := hs1; have HB1 : Hid (Bu p w w1) := HB4.out.trans ((Bu.drew (Bu.refl _ _)).trans hb1); clear hs1 hb1; have c0 := BR1.out.cell (j := 0) rfl; have c1 := BR1.out.cell (j := 1) rfl; have c2 := BR1.out.cell (j := 2) rfl; have c3 := BR1.out.cell (j := 3) rfl; have cf := BR1.out.frozen; have cz := BR1.out.lt))
    clear kx0 kx1 hx0 BX4
    go_wp2
    refine bodyPost_ret (v := .agg #[.int .i64 g.re, .int .i64 g.im, .int .i64 g2.re, .int .i64 g2.im]) (by simp [results, Try.results63, go_sem, c0, c1, c2, c3, cf, cz] <;> (repeat' (first | rfl | apply And.intro))) rfl ⟨⟨g, g2⟩, k + 1 + k2, rfl, by have := HK.out; omega, by have := HK.out; omega, ?_, ?_⟩
    · rw [show a + (k + 1 + k2) = a + k + 1 + k2 by omega]
      exact (((HS1.out.set hnr.out HL.out _ (j := 0)).set hnr.out HL.out _ (j := 1)).set hnr.out HL.out _ (j := 2)).set hnr.out HL.out _ (j := 3)
    · exact (((HB1.out.set (Nat.le_refl _) _).set (Nat.le_refl _) _).set (Nat.le_refl _) _).set (Nat.le_refl _) _
end Go.Proofs.Ytloebnlmeplgbaa
