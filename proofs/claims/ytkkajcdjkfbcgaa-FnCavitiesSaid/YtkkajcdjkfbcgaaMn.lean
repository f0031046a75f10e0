/- The drawing of a cavity; the system of no part at all. -/
import Derived.Test.YtkkajcdjkfbcgaaDk
namespace Go.Proofs.Ytkkajcdjkfbcgaa
open Go.RowKit
set_option linter.unusedVariables false
set_option linter.unusedSimpArgs false
set_option maxRecDepth 20000 in
set_option maxHeartbeats 3200000 in
theorem drawCav {w : World} {v : Value} {n : Nat} {g : Nat → Int} (hB : RdB w v n g) (hg : ∀ i, i < n → 0 ≤ g i ∧ g i ≤ 255) (hn : n ≤ 1000000000000) :
    Calls Try.prog 18 #[v] w fun e w' => ∃ (x y z : Q), e = .returned (.tuple #[.agg #[.int .i64 x.n, .int .i64 x.d], .agg #[.int .i64 y.n, .int .i64 y.d], .agg #[.int .i64 z.n, .int .i64 z.d]]) ∧ (QB 3000000000 x ∧ QB 3000000000 y ∧ QB 3000000000 z) ∧ Below w.heap.size w w' := by
  obtain ⟨ao, cap, rfl⟩ := hB.form
  obtain ⟨v1, hv⟩ : ∃ X, X = ((w.alloc (.cells #[.int .i64 0, .int .i64 0] 32)).alloc (.cells #[.int .i64 0, .int .i64 0] 32)).alloc (.cells #[.int .i64 0, .int .i64 0] 32) := ⟨_, rfl⟩
  have H1 : Hid (Below w.heap.size w v1) := by show Below _ _ _; rw [hv]; go_grown
  have B0 : Hid (Blk v1 w.heap.size #[.int .i64 0, .int .i64 0] 32) := by show Blk _ _ _ _; rw [hv]; exact Blk.alloc (Blk.alloc (Blk.new rfl) _) _
  have B1 : Hid (Blk v1 (w.heap.size + 1) #[.int .i64 0, .int .i64 0] 32) := by show Blk _ _ _ _; rw [hv]; exact Blk.alloc (Blk.new (by simp)) _
  have B2 : Hid (Blk v1 (w.heap.size + 1 + 1) #[.int .i64 0, .int .i64 0] 32) := by show Blk _ _ _ _; rw [hv]; exact Blk.new (by simp)
  have MI : Hid (Calls Try.prog 59 #[.slice ao n cap] v1 fun e w' => ∃ (x y z : Q), e = .returned (.tuple #[.agg #[.int .i64 x.n, .int .i64 x.d], .agg #[.int .i64 y.n, .int .i64 y.d], .agg #[.int .i64 z.n, .int .i64 z.d]]) ∧ (QB 3000000000 x ∧ QB 3000000000 y ∧ QB 3000000000 z) ∧ Below v1.heap.size v1 w') := mirrors_any (hB.later H1.out) hg hn
  clear hB hg
  go_enter Try.func18, Try.ntmps18
  go_upto_region 1 with fail
  rw [← hv]
  clear hv
  go_wp2_with fail
  refine MI.out.mono ?_
  rintro e w2 ⟨x, y, z, rfl, qb, hb⟩
  have HQ : Hid (QB 3000000000 x ∧ QB 3000000000 y ∧ QB 3000000000 z) := qb
  have D0 := B0.out.old hb
  have D1 := B1.out.old hb
  have D2 := B2.out.old hb
  have HO : Hid (Below w.heap.size w w2) := H1.out.trans (hb.mono H1.out.size)
  clear hb qb MI
  have c0 := D0.cell (j := 0) rfl
  have c1 := D0.cell (j := 1) rfl
  have d0 := D1.cell (j := 0) rfl
  have d1 := D1.cell (j := 1) rfl
  have g0 := D2.cell (j := 0) rfl
  have g1 := D2.cell (j := 1) rfl
  have cf := D0.frozen
  have df := D1.frozen
  have gf := D2.frozen
  have cz := D0.lt
  have dz := D1.lt
  have gz := D2.lt
  go_wp2
  refine bodyPost_ret (v := .tuple #[.agg #[.int .i64 x.n, .int .i64 x.d], .agg #[.int .i64 y.n, .int .i64 y.d], .agg #[.int .i64 z.n, .int .i64 z.d]]) (by simp [results, Try.results18, go_sem, c0, c1, d0, d1, g0, g1, cf, df, gf, cz, dz, gz] <;> (repeat' (first | rfl | apply And.intro))) rfl ⟨x, y, z, rfl, HQ.out, ?_⟩
  have h := HO.out
  go_grown
set_option maxRecDepth 20000 in
set_option maxHeartbeats 3200000 in
theorem sparts_nil (w : World) : Calls Try.prog 76 #[.slice none 0 0] w fun e w' => e = .returned (.int .i64 0) ∧ Below w.heap.size w w' := by
  go_enter Try.func76, Try.ntmps76
  go_wp2_with fail
  go_loopw [3] (fun i wr => i = .int .i64 0 ∧ Below w.heap.size w wr) (fun i _ => 0)
  case atStart => exact ⟨rfl, Below.refl _ _⟩
  case round =>
    obtain ⟨rfl, hb⟩ := hrel
    have HB : Hid (Below w.heap.size w wr) := hb
    clear hb
    go_wp2
    go_ret
    exact ⟨rfl, HB.out⟩
end Go.Proofs.Ytkkajcdjkfbcgaa
