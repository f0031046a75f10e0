/- The drawing of fractions out of bytes: whatever the bytes are, some fraction is drawn, and of old memory only the source moves: contracts. -/
import Derived.Test.YtkkajcdjkfbcgaaDraws
import Derived.Test.YtkkajcdjkfbcgaaLow
import Derived.Test.YtkkajcdjkfbcgaaJn
import Derived.Handy
namespace Go.Proofs.Ytkkajcdjkfbcgaa
open Go.RowKit
set_option linter.unusedVariables false
set_option linter.unusedSimpArgs false
/-- All blocks but p as they were. -/
structure Bu (p : Nat) (w w' : World) : Prop where
  size : w.heap.size ≤ w'.heap.size
  blk : ∀ b, b < w.heap.size → b ≠ p → w'.heap[b]? = w.heap[b]?
namespace Bu
variable {p : Nat} {w w' w'' : World}
theorem refl (p : Nat) (w : World) : Bu p w w := ⟨Nat.le_refl _, fun _ _ _ => rfl⟩
theorem trans (h : Bu p w w') (k : Bu p w' w'') : Bu p w w'' := ⟨Nat.le_trans h.size k.size, fun b hb hp => (k.blk b (Nat.lt_of_lt_of_le hb h.size) hp).trans (h.blk b hb hp)⟩
theorem of_below (k : Below w.heap.size w w') : Bu p w w' := ⟨k.size, fun b hb _ => k.block b hb⟩
theorem later (h : Bu p w w') (k : Below w'.heap.size w' w'') : Bu p w w'' := h.trans (of_below k)
theorem alloc (h : Bu p w w') (o : Obj) : Bu p w (w'.alloc o) := h.later ((Below.refl _ _).alloc (Nat.le_refl _) o)
theorem set (h : Bu p w w') {k j : Nat} (hk : w.heap.size ≤ k) (x : Value) : Bu p w (w'.setCell ⟨k, j, none⟩ x) :=
  ⟨by have := h.size; simpa using this, fun b hb hp => (Below.heap_setCell _ _ _ _ (show b ≠ k by omega)).trans (h.blk b hb hp)⟩
theorem keep (h : Bu p w w') {b : Nat} {cs : Array Value} {t : TypeId} (k : Blk w b cs t) (hp : b ≠ p) : Blk w' b cs t := (h.blk b k.lt hp).trans k
end Bu
theorem Src.lt {w0 w : World} {v : Value} {a : Int} {p : Nat} (h : Src w0 w v a p) : p < w.heap.size := World.block_lt_of_cell? _ _ h.code
theorem Src.later {w0 w w' : World} {v : Value} {a : Int} {p : Nat} (h : Src w0 w v a p) (k : Below w.heap.size w w') : Src w0 w' v a p :=
  ⟨h.below.trans (k.mono h.below.size), h.new, (k.cell (p := ⟨p, 0, none⟩) h.lt).trans h.code, (k.cell (p := ⟨p, 1, none⟩) h.lt).trans h.here, (k.frozen (p := ⟨p, 1, none⟩) h.lt).trans h.free⟩
theorem Src.set {w0 w : World} {v : Value} {a : Int} {p k j : Nat} (h : Src w0 w v a p) (hk : k ≠ p) (h0 : w0.heap.size ≤ k) (x : Value) : Src w0 (w.setCell ⟨k, j, none⟩ x) v a p := by
  have e : (w.setCell ⟨k, j, none⟩ x).heap[p]? = w.heap[p]? := Below.heap_setCell _ _ _ _ (show p ≠ k by omega)
  refine ⟨h.below.setCell h0 _, h.new, ?_, ?_, ?_⟩
  · exact (World.cell?_of_block (w := w) (a := ⟨p, 0, none⟩) e).trans h.code
  · exact (World.cell?_of_block (w := w) (a := ⟨p, 1, none⟩) e).trans h.here
  · rw [← h.free]; simp only [World.frozen?]; rw [e]
theorem bu_next {w0 w w' : World} {v : Value} {a : Int} {p : Nat} (h : Src w0 w' v a p) (k : ∀ b, b ≠ p → w'.heap[b]? = w.heap[b]?) : Bu p w w' := by
  refine ⟨?_, fun b _ hp => k b hp⟩
  rcases Nat.lt_or_ge w'.heap.size w.heap.size with hl | hl
  · exfalso
    have hp : w'.heap.size ≠ p := by have := h.lt; omega
    have e := k _ hp
    rw [Array.getElem?_eq_none (Nat.le_refl _), Array.getElem?_eq_getElem hl] at e
    cases e
  · exact hl
theorem nexts_of {w0 : World} {v : Value} {n : Nat} {g : Nat → Int} {p : Nat} (hB : RdB w0 v n g) (hg : ∀ i, i < n → 0 ≤ g i ∧ g i ≤ 255) (hn : n ≤ 1000000000000) : Nexts w0 v p := fun w a N hS h1 h2 h3 h4 => next_any hS hB hg hn h1 h2 h3 h4
def QB (B : Int) (q : Q) : Prop := -B ≤ q.n ∧ q.n ≤ B ∧ -B ≤ q.d ∧ q.d ≤ B
/-- A drawn fraction: at most K bytes are drawn. -/
def Dr (fn : FuncId) (K B : Int) : Prop := ∀ (w0 w : World) (v : Value) (a : Int) (p : Nat), Src w0 w v a p → Nexts w0 v p → 0 ≤ a → a + K ≤ 900 →
  Calls Try.prog fn #[.pointer (some ⟨p, 0, none⟩)] w fun e w' => ∃ (q : Q) (a' : Int), e = .returned (.agg #[.int .i64 q.n, .int .i64 q.d]) ∧ QB B q ∧ (a ≤ a' ∧ a' ≤ a + K) ∧ Src w0 w' v a' p ∧ Bu p w w'
theorem res_bd (n d : Int) : QB 1000000000 ⟨resN n d, resD n d⟩ := by
  unfold QB resN resD
  by_cases h : lowB n d = true
  · rw [if_pos h, if_pos h]
    unfold lowB at h
    have := inB_t h
    dsimp only
    exact ⟨by omega, by omega, by omega, by omega⟩
  · rw [if_neg h, if_neg h]; dsimp only; exact ⟨by omega, by omega, by omega, by omega⟩
theorem fields60 : Try.prog.underlying 49 = some (.struct (Try.prog.fieldsOf 49)) := by kernel_rfl
theorem field60 (c n d : Int) (w : World) : (Instr.field 49 (.agg #[.int .i64 c, .int .i64 n, .int .i64 d]) 1).run Try.prog w = .ok (.agg #[.int .i64 n, .int .i64 d]) w := by
  have h : ((Try.prog.fieldsOf 49)[1]?).map (fun f => (f.type, f.offset)) = some (32, 1) := by kernel_rfl
  obtain ⟨f, hf, e⟩ := Option.map_eq_some_iff.1 h
  simp only [Prod.mk.injEq] at e
  obtain ⟨h1, h2⟩ := e
  have hh : (Try.prog.fieldsOf 49)[1]? = some f := hf
  simp [Instr.field, run_underlying fields60, hh, h1, h2, asAgg, part, isAgg, run_underlying Try.underlying32, go_sem]
set_option maxHeartbeats 1600000 in
theorem chance_any {w0 w : World} {v : Value} {a : Int} {p : Nat} (hS : Src w0 w v a p) (NX : Nexts w0 v p) (h0 : 0 ≤ a) (h1 : a ≤ 900) (N : Int) (hN : 1 ≤ N) (hN2 : N ≤ 1000) :
    Calls Try.prog 55 #[.pointer (some ⟨p, 0, none⟩), .int .i64 N] w fun e w' => ∃ b : Bool, e = .returned (.bool b) ∧ Src w0 w' v (a + 1) p ∧ Bu p w w' := by
  go_enter Try.func55, Try.ntmps55
  go_wp2_with fail
  refine (NX _ _ N hS (by omega) (by omega) (by omega) (by omega)).mono ?_
  rintro e w1 ⟨r1, rfl, p0, p1, hS1, hb⟩
  have U : Hid (Bu p w w1) := bu_next hS1 hb
  replace hS1 : Hid _ := hS1
  clear hS NX hb
  go_wp2
  go_ret
  exact ⟨_, rfl, hS1.out, U.out⟩
set_option maxRecDepth 20000 in
set_option maxHeartbeats 3200000 in
theorem small_any : Dr 128 2 1000000000 := by
  intro w0 w v a p hS NX h0 hK
  have N : Hid (Nexts w0 v p) := NX
  have hp := hS.lt
  have hw := hS.below.size
  obtain ⟨w1, hw1⟩ : ∃ W, W = w.alloc (.cells #[.int .i64 0, .int .i64 0] 32) := ⟨_, rfl⟩
  have S1 : Hid (Src w0 w1 v a p) := by show Src _ _ _ _ _; rw [hw1]; exact hS.alloc _
  have U1 : Hid (Bu p w w1) := by show Bu _ _ _; rw [hw1]; exact (Bu.refl _ _).alloc _
  have R1 : Hid (Blk w1 w.heap.size #[.int .i64 0, .int .i64 0] 32) := by show Blk _ _ _ _; rw [hw1]; exact Blk.new rfl
  clear hS NX
  go_enter Try.func128, Try.ntmps128
  go_upto_region 1 with fail
  rw [← hw1]
  clear hw1
  go_wp2_with fail
  refine (N.out _ _ 61 S1.out (by omega) (by omega) (by omega) (by omega)).mono ?_
  rintro e w2 ⟨r, rfl, r0, r1, hs, hb⟩
  have S2 : Hid (Src w0 w2 v (a + 1) p) := hs
  have u := bu_next hs hb
  have U2 : Hid (Bu p w w2) := U1.out.trans u
  have R2 : Hid (Blk w2 w.heap.size #[.int .i64 0, .int .i64 0] 32) := u.keep R1.out (by omega)
  clear u hs S1 U1 R1
  clear hb
  go_wp2_with fail
  refine (N.out _ _ 12 S2.out (by omega) (by omega) (by omega) (by omega)).mono ?_
  rintro e w3 ⟨q, rfl, q0, q1, hs, hb⟩
  have S3 : Hid (Src w0 w3 v (a + 1 + 1) p) := hs
  have u := bu_next hs hb
  have U3 : Hid (Bu p w w3) := U2.out.trans u
  have R3 : Hid (Blk w3 w.heap.size #[.int .i64 0, .int .i64 0] 32) := u.keep R2.out (by omega)
  clear u hs S2 U2 R2
  clear hb
  have hf60 := field60
  go_wp2_with fail
  refine (slow (r - 30) (1 + q) _ (by omega) (by omega) (by omega) (by omega) (by omega)).mono ?_
  rintro e w4 ⟨rfl, hb⟩
  have hs := S3.out.later hb
  have S4 : Hid (Src w0 w4 v (a + 1 + 1) p) := hs
  have u := Bu.of_below (p := p) hb
  have U4 : Hid (Bu p w w4) := U3.out.trans u
  have R4 : Hid (Blk w4 w.heap.size #[.int .i64 0, .int .i64 0] 32) := u.keep R3.out (by omega)
  clear u hs S3 U3 R3
  clear hb
  have c0 := R4.out.cell (j := 0) (v := .int .i64 0) rfl
  have f0 := R4.out.frozen 0
  have c1 := R4.out.cell (j := 1) (v := .int .i64 0) rfl
  have f1 := R4.out.frozen 1
  go_wp2
  exact bodyPost_ret (v := .agg #[.int .i64 (resN (r - 30) (1 + q)), .int .i64 (resD (r - 30) (1 + q))]) (by simp [results, Try.results128, go_sem, c0, c1]) rfl ⟨⟨resN (r - 30) (1 + q), resD (r - 30) (1 + q)⟩, a + 1 + 1, rfl, res_bd _ _, ⟨by omega, by omega⟩, (S4.out.set (by omega) (by omega) _).set (by omega) (by omega) _, (U4.out.set (Nat.le_refl _) _).set (Nat.le_refl _) _⟩
set_option maxRecDepth 20000 in
set_option maxHeartbeats 3200000 in
theorem wide_any : Dr 123 3 1000000000 := by
  intro w0 w v a p hS NX h0 hK
  have N : Hid (Nexts w0 v p) := NX
  have hp := hS.lt
  have hw := hS.below.size
  obtain ⟨w1, hw1⟩ : ∃ W, W = w.alloc (.cells #[.int .i64 0, .int .i64 0] 32) := ⟨_, rfl⟩
  have S1 : Hid (Src w0 w1 v a p) := by show Src _ _ _ _ _; rw [hw1]; exact hS.alloc _
  have U1 : Hid (Bu p w w1) := by show Bu _ _ _; rw [hw1]; exact (Bu.refl _ _).alloc _
  have R1 : Hid (Blk w1 w.heap.size #[.int .i64 0, .int .i64 0] 32) := by show Blk _ _ _ _; rw [hw1]; exact Blk.new rfl
  clear hS NX
  go_enter Try.func123, Try.ntmps123
  go_upto_region 1 with fail
  rw [← hw1]
  clear hw1
  go_wp2_with fail
  refine (chance_any S1.out N.out (by omega) (by omega) 8 (by omega) (by omega)).mono ?_
  rintro e w2 ⟨b, rfl, hs, hu⟩
  have S2 : Hid (Src w0 w2 v (a + 1) p) := hs
  have u := hu
  have U2 : Hid (Bu p w w2) := U1.out.trans u
  have R2 : Hid (Blk w2 w.heap.size #[.int .i64 0, .int .i64 0] 32) := u.keep R1.out (by omega)
  clear u hs S1 U1 R1
  clear hu
  cases b with
  | false =>
    go_wp2_with fail
    refine (small_any _ _ _ _ _ S2.out N.out (by omega) (by omega)).mono ?_
    rintro e w3 ⟨z, m, rfl, zB, mb, hs, hu⟩
    obtain ⟨m0, m1⟩ := mb
    have S3 : Hid (Src w0 w3 v (m) p) := hs
    have u := hu
    have U3 : Hid (Bu p w w3) := U2.out.trans u
    have R3 : Hid (Blk w3 w.heap.size #[.int .i64 0, .int .i64 0] 32) := u.keep R2.out (by omega)
    clear u hs S2 U2 R2
    clear hu
    have c0 := R3.out.cell (j := 0) (v := .int .i64 0) rfl
    have f0 := R3.out.frozen 0
    have c1 := R3.out.cell (j := 1) (v := .int .i64 0) rfl
    have f1 := R3.out.frozen 1
    go_wp2
    exact bodyPost_ret (v := .agg #[.int .i64 (z.n), .int .i64 (z.d)]) (by simp [results, Try.results123, go_sem, c0, c1]) rfl ⟨⟨z.n, z.d⟩, m, rfl, zB, ⟨by omega, by omega⟩, (S3.out.set (by omega) (by omega) _).set (by omega) (by omega) _, (U3.out.set (Nat.le_refl _) _).set (Nat.le_refl _) _⟩
  | true =>
    go_wp2_with fail
    obtain ⟨w3, hw3⟩ : ∃ W, W = w2.alloc (.cells #[.int .i64 1000000000, .int .i64 1, .int .i64 (-1000000000), .int .i64 1, .int .i64 1, .int .i64 1000000000, .int .i64 1000000000, .int .i64 999999999, .int .i64 (-1), .int .i64 999999937] 32) := ⟨_, rfl⟩
    rw [← hw3]
    have hb : Below w2.heap.size w2 w3 := by rw [hw3]; exact (Below.refl _ _).alloc (Nat.le_refl _) _
    have T3 : Hid (Blk w3 w2.heap.size #[.int .i64 1000000000, .int .i64 1, .int .i64 (-1000000000), .int .i64 1, .int .i64 1, .int .i64 1000000000, .int .i64 1000000000, .int .i64 999999999, .int .i64 (-1), .int .i64 999999937] 32) := by show Blk _ _ _ _; rw [hw3]; exact Blk.new rfl
    have hpt : p < w2.heap.size := S2.out.lt
    have hwt : w.heap.size < w2.heap.size := R2.out.lt
    have hs := S2.out.later hb
    have S3 : Hid (Src w0 w3 v (a + 1) p) := hs
    have u := Bu.of_below (p := p) hb
    have U3 : Hid (Bu p w w3) := U2.out.trans u
    have R3 : Hid (Blk w3 w.heap.size #[.int .i64 0, .int .i64 0] 32) := u.keep R2.out (by omega)
    clear u hs S2 U2 R2
    clear hb hw3
    refine (N.out _ _ 5 S3.out (by omega) (by omega) (by omega) (by omega)).mono ?_
    rintro e w4 ⟨r, rfl, r0, r1, hs, hb⟩
    have T4 : Hid (Blk w4 w2.heap.size #[.int .i64 1000000000, .int .i64 1, .int .i64 (-1000000000), .int .i64 1, .int .i64 1, .int .i64 1000000000, .int .i64 1000000000, .int .i64 999999999, .int .i64 (-1), .int .i64 999999937] 32) := (bu_next hs hb).keep T3.out (by omega)
    have S4 : Hid (Src w0 w4 v (a + 1 + 1) p) := hs
    have u := bu_next hs hb
    have U4 : Hid (Bu p w w4) := U3.out.trans u
    have R4 : Hid (Blk w4 w.heap.size #[.int .i64 0, .int .i64 0] 32) := u.keep R3.out (by omega)
    clear u hs S3 U3 R3
    clear hb T3
    have hr : r = 0 ∨ r = 1 ∨ r = 2 ∨ r = 3 ∨ r = 4 := by omega
    rcases hr with rfl | rfl | rfl | rfl | rfl
    · have t0 := T4.out.cell (j := 0) (v := .int .i64 1000000000) rfl
      have t1 := T4.out.cell (j := 1) (v := .int .i64 1) rfl
      have c0 := R4.out.cell (j := 0) (v := .int .i64 0) rfl
      have f0 := R4.out.frozen 0
      have c1 := R4.out.cell (j := 1) (v := .int .i64 0) rfl
      have f1 := R4.out.frozen 1
      go_wp2
      exact bodyPost_ret (v := .agg #[.int .i64 (1000000000), .int .i64 (1)]) (by simp [results, Try.results123, go_sem, c0, c1]) rfl ⟨⟨1000000000, 1⟩, a + 1 + 1, rfl, ⟨by decide, by decide, by decide, by decide⟩, ⟨by omega, by omega⟩, (S4.out.set (by omega) (by omega) _).set (by omega) (by omega) _, (U4.out.set (Nat.le_refl _) _).set (Nat.le_refl _) _⟩
    · have t0 := T4.out.cell (j := 2) (v := .int .i64 (-1000000000)) rfl
      have t1 := T4.out.cell (j := 3) (v := .int .i64 1) rfl
      have c0 := R4.out.cell (j := 0) (v := .int .i64 0) rfl
      have f0 := R4.out.frozen 0
      have c1 := R4.out.cell (j := 1) (v := .int .i64 0) rfl
      have f1 := R4.out.frozen 1
      go_wp2
      exact bodyPost_ret (v := .agg #[.int .i64 (-1000000000), .int .i64 (1)]) (by simp [results, Try.results123, go_sem, c0, c1]) rfl ⟨⟨-1000000000, 1⟩, a + 1 + 1, rfl, ⟨by decide, by decide, by decide, by decide⟩, ⟨by omega, by omega⟩, (S4.out.set (by omega) (by omega) _).set (by omega) (by omega) _, (U4.out.set (Nat.le_refl _) _).set (Nat.le_refl _) _⟩
    · have t0 := T4.out.cell (j := 4) (v := .int .i64 1) rfl
      have t1 := T4.out.cell (j := 5) (v := .int .i64 1000000000) rfl
      have c0 := R4.out.cell (j := 0) (v := .int .i64 0) rfl
      have f0 := R4.out.frozen 0
      have c1 := R4.out.cell (j := 1) (v := .int .i64 0) rfl
      have f1 := R4.out.frozen 1
      go_wp2
      exact bodyPost_ret (v := .agg #[.int .i64 (1), .int .i64 (1000000000)]) (by simp [results, Try.results123, go_sem, c0, c1]) rfl ⟨⟨1, 1000000000⟩, a + 1 + 1, rfl, ⟨by decide, by decide, by decide, by decide⟩, ⟨by omega, by omega⟩, (S4.out.set (by omega) (by omega) _).set (by omega) (by omega) _, (U4.out.set (Nat.le_refl _) _).set (Nat.le_refl _) _⟩
    · have t0 := T4.out.cell (j := 6) (v := .int .i64 1000000000) rfl
      have t1 := T4.out.cell (j := 7) (v := .int .i64 999999999) rfl
      have c0 := R4.out.cell (j := 0) (v := .int .i64 0) rfl
      have f0 := R4.out.frozen 0
      have c1 := R4.out.cell (j := 1) (v := .int .i64 0) rfl
      have f1 := R4.out.frozen 1
      go_wp2
      exact bodyPost_ret (v := .agg #[.int .i64 (1000000000), .int .i64 (999999999)]) (by simp [results, Try.results123, go_sem, c0, c1]) rfl ⟨⟨1000000000, 999999999⟩, a + 1 + 1, rfl, ⟨by decide, by decide, by decide, by decide⟩, ⟨by omega, by omega⟩, (S4.out.set (by omega) (by omega) _).set (by omega) (by omega) _, (U4.out.set (Nat.le_refl _) _).set (Nat.le_refl _) _⟩
    · have t0 := T4.out.cell (j := 8) (v := .int .i64 (-1)) rfl
      have t1 := T4.out.cell (j := 9) (v := .int .i64 999999937) rfl
      have c0 := R4.out.cell (j := 0) (v := .int .i64 0) rfl
      have f0 := R4.out.frozen 0
      have c1 := R4.out.cell (j := 1) (v := .int .i64 0) rfl
      have f1 := R4.out.frozen 1
      go_wp2
      exact bodyPost_ret (v := .agg #[.int .i64 (-1), .int .i64 (999999937)]) (by simp [results, Try.results123, go_sem, c0, c1]) rfl ⟨⟨-1, 999999937⟩, a + 1 + 1, rfl, ⟨by decide, by decide, by decide, by decide⟩, ⟨by omega, by omega⟩, (S4.out.set (by omega) (by omega) _).set (by omega) (by omega) _, (U4.out.set (Nat.le_refl _) _).set (Nat.le_refl _) _⟩
set_option maxRecDepth 20000 in
set_option maxHeartbeats 3200000 in
theorem plain_any : Dr 104 5 1000000000 := by
  intro w0 w v a p hS NX h0 hK
  have N : Hid (Nexts w0 v p) := NX
  have hp := hS.lt
  have hw := hS.below.size
  obtain ⟨w1, hw1⟩ : ∃ W, W = w.alloc (.cells #[.int .i64 0, .int .i64 0] 32) := ⟨_, rfl⟩
  have S1 : Hid (Src w0 w1 v a p) := by show Src _ _ _ _ _; rw [hw1]; exact hS.alloc _
  have U1 : Hid (Bu p w w1) := by show Bu _ _ _; rw [hw1]; exact (Bu.refl _ _).alloc _
  have R1 : Hid (Blk w1 w.heap.size #[.int .i64 0, .int .i64 0] 32) := by show Blk _ _ _ _; rw [hw1]; exact Blk.new rfl
  clear hS NX
  go_enter Try.func104, Try.ntmps104
  go_upto_region 1 with fail
  rw [← hw1]
  clear hw1
  go_wp2_with fail
  refine (chance_any S1.out N.out (by omega) (by omega) 40 (by omega) (by omega)).mono ?_
  rintro e w2 ⟨b, rfl, hs, hu⟩
  have S2 : Hid (Src w0 w2 v (a + 1) p) := hs
  have u := hu
  have U2 : Hid (Bu p w w2) := U1.out.trans u
  have R2 : Hid (Blk w2 w.heap.size #[.int .i64 0, .int .i64 0] 32) := u.keep R1.out (by omega)
  clear u hs S1 U1 R1
  clear hu
  cases b with
  | false =>
    go_wp2_with fail
    refine (N.out _ _ 13 S2.out (by omega) (by omega) (by omega) (by omega)).mono ?_
    rintro e w3 ⟨r, rfl, r0, r1, hs, hb⟩
    have S3 : Hid (Src w0 w3 v (a + 1 + 1) p) := hs
    have u := bu_next hs hb
    have U3 : Hid (Bu p w w3) := U2.out.trans u
    have R3 : Hid (Blk w3 w.heap.size #[.int .i64 0, .int .i64 0] 32) := u.keep R2.out (by omega)
    clear u hs S2 U2 R2
    clear hb
    go_wp2_with fail
    refine (N.out _ _ 4 S3.out (by omega) (by omega) (by omega) (by omega)).mono ?_
    rintro e w4 ⟨q, rfl, q0, q1, hs, hb⟩
    have S4 : Hid (Src w0 w4 v (a + 1 + 1 + 1) p) := hs
    have u := bu_next hs hb
    have U4 : Hid (Bu p w w4) := U3.out.trans u
    have R4 : Hid (Blk w4 w.heap.size #[.int .i64 0, .int .i64 0] 32) := u.keep R3.out (by omega)
    clear u hs S3 U3 R3
    clear hb
    have hf60 := field60
    go_wp2_with fail
    refine (slow (r - 4) (1 + q) _ (by omega) (by omega) (by omega) (by omega) (by omega)).mono ?_
    rintro e w5 ⟨rfl, hb⟩
    have hs := S4.out.later hb
    have S5 : Hid (Src w0 w5 v (a + 1 + 1 + 1) p) := hs
    have u := Bu.of_below (p := p) hb
    have U5 : Hid (Bu p w w5) := U4.out.trans u
    have R5 : Hid (Blk w5 w.heap.size #[.int .i64 0, .int .i64 0] 32) := u.keep R4.out (by omega)
    clear u hs S4 U4 R4
    clear hb
    have c0 := R5.out.cell (j := 0) (v := .int .i64 0) rfl
    have f0 := R5.out.frozen 0
    have c1 := R5.out.cell (j := 1) (v := .int .i64 0) rfl
    have f1 := R5.out.frozen 1
    go_wp2
    exact bodyPost_ret (v := .agg #[.int .i64 (resN (r - 4) (1 + q)), .int .i64 (resD (r - 4) (1 + q))]) (by simp [results, Try.results104, go_sem, c0, c1]) rfl ⟨⟨resN (r - 4) (1 + q), resD (r - 4) (1 + q)⟩, a + 1 + 1 + 1, rfl, res_bd _ _, ⟨by omega, by omega⟩, (S5.out.set (by omega) (by omega) _).set (by omega) (by omega) _, (U5.out.set (Nat.le_refl _) _).set (Nat.le_refl _) _⟩
  | true =>
    go_wp2_with fail
    refine (wide_any _ _ _ _ _ S2.out N.out (by omega) (by omega)).mono ?_
    rintro e w3 ⟨z, m, rfl, zB, mb, hs, hu⟩
    obtain ⟨m0, m1⟩ := mb
    have S3 : Hid (Src w0 w3 v (m) p) := hs
    have u := hu
    have U3 : Hid (Bu p w w3) := U2.out.trans u
    have R3 : Hid (Blk w3 w.heap.size #[.int .i64 0, .int .i64 0] 32) := u.keep R2.out (by omega)
    clear u hs S2 U2 R2
    clear hu
    have c0 := R3.out.cell (j := 0) (v := .int .i64 0) rfl
    have f0 := R3.out.frozen 0
    have c1 := R3.out.cell (j := 1) (v := .int .i64 0) rfl
    have f1 := R3.out.frozen 1
    go_wp2
    exact bodyPost_ret (v := .agg #[.int .i64 (z.n), .int .i64 (z.d)]) (by simp [results, Try.results104, go_sem, c0, c1]) rfl ⟨⟨z.n, z.d⟩, m, rfl, zB, ⟨by omega, by omega⟩, (S3.out.set (by omega) (by omega) _).set (by omega) (by omega) _, (U3.out.set (Nat.le_refl _) _).set (Nat.le_refl _) _⟩
end Go.Proofs.Ytkkajcdjkfbcgaa
