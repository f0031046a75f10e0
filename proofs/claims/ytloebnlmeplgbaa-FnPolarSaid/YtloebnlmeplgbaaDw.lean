/- Lights and plates out of drawn bytes: any numbers come out; the source goes on, all else is as it was. -/
import Derived.Test.YtloebnlmeplgbaaDq
import Derived.Test.YtloebnlmeplgbaaLwat
import Derived.Test.YtloebnlmeplgbaaPk
import Derived.Test.YtloebnlmeplgbaaLa
import Derived.Handy
namespace Go.Proofs.Ytloebnlmeplgbaa
open Go.RowKit
set_option linter.unusedVariables false
set_option linter.unusedSimpArgs false
theorem cells4 {w : World} {b : Nat} {a0 a1 a2 a3 : Int} {t : TypeId} {B : Int} (h : Blk w b #[.int .i64 a0, .int .i64 a1, .int .i64 a2, .int .i64 a3] t) (h0 : -B ≤ a0 ∧ a0 ≤ B) (h1 : -B ≤ a1 ∧ a1 ≤ B) (h2 : -B ≤ a2 ∧ a2 ≤ B) (h3 : -B ≤ a3 ∧ a3 ≤ B) : ∀ i, i < 4 → ∃ x : Int, w.cell? ⟨b, i, none⟩ = some (.int .i64 x) ∧ -B ≤ x ∧ x ≤ B
  | 0, _ => ⟨a0, h.cell rfl, h0⟩ | 1, _ => ⟨a1, h.cell rfl, h1⟩ | 2, _ => ⟨a2, h.cell rfl, h2⟩ | 3, _ => ⟨a3, h.cell rfl, h3⟩
  | i + 4, h => absurd h (by omega)
theorem cells3 {w : World} {b : Nat} {a0 a1 a2 : Int} {t : TypeId} {B : Int} (h : Blk w b #[.int .i64 a0, .int .i64 a1, .int .i64 a2] t) (h0 : -B ≤ a0 ∧ a0 ≤ B) (h1 : -B ≤ a1 ∧ a1 ≤ B) (h2 : -B ≤ a2 ∧ a2 ≤ B) : ∀ i, i < 3 → ∃ x : Int, w.cell? ⟨b, i, none⟩ = some (.int .i64 x) ∧ -B ≤ x ∧ x ≤ B
  | 0, _ => ⟨a0, h.cell rfl, h0⟩ | 1, _ => ⟨a1, h.cell rfl, h1⟩ | 2, _ => ⟨a2, h.cell rfl, h2⟩
  | i + 3, h => absurd h (by omega)
theorem bu_of {w0 w w' : World} {v : Value} {a : Int} {p : Nat} (h : Src w0 w' v a p) (k : ∀ b, b ≠ p → w'.heap[b]? = w.heap[b]?) : Bu p w w' := bu_next h k
set_option maxRecDepth 20000 in
set_option maxHeartbeats 1600000 in
theorem g_any {w0 w : World} {v : Value} {a : Int} {p : Nat} (hS : Src w0 w v a p) (NX : Nexts w0 v p) (h0 : 0 ≤ a) (h1 : a ≤ 800) :
    Calls Try.prog 94 #[.pointer (some ⟨p, 0, none⟩)] w fun e w' => ∃ (g : Gz) (k : Int), e = .returned (.agg #[.int .i64 g.re, .int .i64 g.im]) ∧ 0 ≤ k ∧ k ≤ 3 ∧ Src w0 w' v (a + k) p ∧ Bu p w w' := by
  have HA : Hid (0 ≤ a ∧ a ≤ 800) := ⟨h0, h1⟩
  have HN : Hid (Nexts w0 v p) := NX
  have hpw : Hid (p < w.heap.size) := hS.lt
  have HL : Hid (w0.heap.size ≤ w.heap.size) := hS.below.size
  clear h0 h1 NX
  go_enter Try.func94, Try.ntmps94
  go_upto_region 1 with fail
  obtain ⟨v1, hv⟩ : ∃ X, X = w.alloc (.cells #[.int .i64 0, .int .i64 0] 25) := ⟨_, rfl⟩
  rw [← hv]
  have HS : Hid (Src w0 v1 v a p) := by rw [hv]; exact hS.alloc _
  have HB : Hid (Bu p w v1) := by rw [hv]; exact (Bu.refl _ _).alloc _
  have BR : Hid (Blk v1 w.heap.size #[.int .i64 0, .int .i64 0] 25) := by show Blk _ _ _ _; rw [hv]; exact Blk.new rfl
  have hne : Hid (w.heap.size ≠ p) := by show _ ≠ _; have := hpw.out; omega
  clear hv hS
  go_wp2_with fail
  refine (chance_any HS.out HN.out HA.out.1 (by have := HA.out; omega) 40 (by omega) (by omega)).mono ?_
  rintro e v2 ⟨b, rfl, hs2, hb2⟩
  replace HS : Hid (Src w0 v2 v (a + 1) p) := hs2
  replace BR : Hid (Blk v2 w.heap.size #[.int .i64 0, .int .i64 0] 25) := hb2.keep BR.out hne.out
  replace HB : Hid (Bu p w v2) := HB.out.trans hb2
  clear hs2 hb2
  cases b with
  | true =>
    go_wp2_with fail
    have B4 : Blk (v2.alloc (.cells #[.int .i64 30000, .int .i64 (-30000), .int .i64 30001, .int .i64 0] 2)) v2.heap.size #[.int .i64 30000, .int .i64 (-30000), .int .i64 30001, .int .i64 0] 2 := Blk.new rfl
    refine (pick_any (HS.out.alloc _) HN.out (by have := HA.out; omega) (by have := HA.out; omega) v2.heap.size 4 (by omega) (by omega) (by have := HS.out.lt; omega) 30001 (cells4 B4 (by omega) (by omega) (by omega) (by omega))).mono ?_
    rintro e v3 ⟨r1, rfl, _, hs3, hb3⟩
    replace HS : Hid (Src w0 v3 v (a + 1 + 1) p) := hs3
    replace BR : Hid (Blk v3 w.heap.size #[.int .i64 0, .int .i64 0] 25) := hb3.keep (Blk.alloc BR.out _) hne.out
    replace HB : Hid (Bu p w v3) := (HB.out.alloc _).trans hb3
    clear hs3 hb3 B4
    go_wp2_with fail
    have B3 : Blk (v3.alloc (.cells #[.int .i64 30000, .int .i64 1, .int .i64 (-30001)] 2)) v3.heap.size #[.int .i64 30000, .int .i64 1, .int .i64 (-30001)] 2 := Blk.new rfl
    refine (pick_any (HS.out.alloc _) HN.out (by have := HA.out; omega) (by have := HA.out; omega) v3.heap.size 3 (by omega) (by omega) (by have := HS.out.lt; omega) 30001 (cells3 B3 (by omega) (by omega) (by omega))).mono ?_
    rintro e v4 ⟨r2, rfl, _, hs4, hb4⟩
    replace HS : Hid (Src w0 v4 v (a + 1 + 1 + 1) p) := hs4
    replace BR : Hid (Blk v4 w.heap.size #[.int .i64 0, .int .i64 0] 25) := hb4.keep (Blk.alloc BR.out _) hne.out
    replace HB : Hid (Bu p w v4) := (HB.out.alloc _).trans hb4
    clear hs4 hb4 B3
    have c0 := BR.out.cell (j := 0) rfl
    have c1 := BR.out.cell (j := 1) rfl
    have cf := BR.out.frozen
    have cz := BR.out.lt
    go_wp2
    refine bodyPost_ret (v := .agg #[.int .i64 r1, .int .i64 r2]) (by simp [results, Try.results94, go_sem, c0, c1, cf, cz]) rfl ⟨⟨r1, r2⟩, 3, rfl, by omega, by omega, ?_, ?_⟩
    · have h := (HS.out.set hne.out HL.out (.int .i64 r1) (j := 0)).set hne.out HL.out (.int .i64 r2) (j := 1)
      rw [show a + 3 = a + 1 + 1 + 1 by omega]
      exact h
    · exact (HB.out.set (Nat.le_refl _) _).set (Nat.le_refl _) _
  | false =>
    go_wp2_with fail
    refine (HN.out _ _ 13 HS.out (by have := HA.out; omega) (by have := HA.out; omega) (by omega) (by omega)).mono ?_
    rintro e v3 ⟨r1, rfl, r10, r11, hs3, hk3⟩
    have hb3 : Bu p v2 v3 := bu_of hs3 hk3
    replace HS : Hid (Src w0 v3 v (a + 1 + 1) p) := hs3
    replace BR : Hid (Blk v3 w.heap.size #[.int .i64 0, .int .i64 0] 25) := hb3.keep BR.out hne.out
    replace HB : Hid (Bu p w v3) := HB.out.trans hb3
    obtain ⟨q1, hq1⟩ : ∃ q, q = wrap64 (r1 - 6) := ⟨_, rfl⟩
    have e1 : wrap64 (r1 - 6) = q1 := hq1.symm
    clear hs3 hk3 hb3 r10 r11 hq1
    go_wp2_with fail
    refine (HN.out _ _ 13 HS.out (by have := HA.out; omega) (by have := HA.out; omega) (by omega) (by omega)).mono ?_
    rintro e v4 ⟨r2, rfl, r20, r21, hs4, hk4⟩
    have hb4 : Bu p v3 v4 := bu_of hs4 hk4
    replace HS : Hid (Src w0 v4 v (a + 1 + 1 + 1) p) := hs4
    replace BR : Hid (Blk v4 w.heap.size #[.int .i64 0, .int .i64 0] 25) := hb4.keep BR.out hne.out
    replace HB : Hid (Bu p w v4) := HB.out.trans hb4
    clear hs4 hk4 hb4 r20 r21
    obtain ⟨q2, hq2⟩ : ∃ q, q = wrap64 (r2 - 6) := ⟨_, rfl⟩
    have e2 : wrap64 (r2 - 6) = q2 := hq2.symm
    clear hq2
    have c0 := BR.out.cell (j := 0) rfl
    have c1 := BR.out.cell (j := 1) rfl
    have cf := BR.out.frozen
    have cz := BR.out.lt
    go_wp2
    refine bodyPost_ret (v := .agg #[.int .i64 q1, .int .i64 q2]) (by simp [results, Try.results94, go_sem, c0, c1, cf, cz]) rfl ⟨⟨q1, q2⟩, 3, rfl, by omega, by omega, ?_, ?_⟩
    · have h := (HS.out.set hne.out HL.out (.int .i64 q1) (j := 0)).set hne.out HL.out (.int .i64 q2) (j := 1)
      rw [show a + 3 = a + 1 + 1 + 1 by omega]
      exact h
    · exact (HB.out.set (Nat.le_refl _) _).set (Nat.le_refl _) _
end Go.Proofs.Ytloebnlmeplgbaa
