/- The drawing of fractions out of bytes: whatever the bytes are, some fraction is drawn, and of old memory only the source moves: contracts. -/
import Derived.Test.YtloebnlmeplgbaaDraws
import Derived.Handy
namespace Go.Proofs.Ytloebnlmeplgbaa
open Go.RowKit
set_option linter.unusedVariables false
set_option linter.unusedSimpArgs false
/-- All blocks but p as they were. -/
structure Bu (p : Nat) (w w' : World) : Prop where
  size : w.heap.size ≤ w'.heap.size
  blk : ∀ b, b < w.heap.size → b ≠ p → w'.heap[b]? = w.heap[b]?
namespace Bu
variable {p : Nat} {w w' w'' : World}
theorem refl (p : Nat) (w : World) : Bu p w w := ⟨Nat.le_refl _, fun _ _ _ => rfl⟩
theorem trans (h : Bu p w w') (k : Bu p w' w'') : Bu p w w'' := ⟨Nat.le_trans h.size k.size, fun b hb hp => (k.blk b (Nat.lt_of_lt_of_le hb h.size) hp).trans (h.blk b hb hp)⟩
theorem of_below (k : Below w.heap.size w w') : Bu p w w' := ⟨k.size, fun b hb _ => k.block b hb⟩
theorem later (h : Bu p w w') (k : Below w'.heap.size w' w'') : Bu p w w'' := h.trans (of_below k)
theorem alloc (h : Bu p w w') (o : Obj) : Bu p w (w'.alloc o) := h.later ((Below.refl _ _).alloc (Nat.le_refl _) o)
theorem set (h : Bu p w w') {k j : Nat} (hk : w.heap.size ≤ k) (x : Value) : Bu p w (w'.setCell ⟨k, j, none⟩ x) :=
  ⟨by have := h.size; simpa using this, fun b hb hp => (Below.heap_setCell _ _ _ _ (show b ≠ k by omega)).trans (h.blk b hb hp)⟩
theorem keep (h : Bu p w w') {b : Nat} {cs : Array Value} {t : TypeId} (k : Blk w b cs t) (hp : b ≠ p) : Blk w' b cs t := (h.blk b k.lt hp).trans k
end Bu
theorem Src.lt {w0 w : World} {v : Value} {a : Int} {p : Nat} (h : Src w0 w v a p) : p < w.heap.size := World.block_lt_of_cell? _ _ h.code
theorem Src.later {w0 w w' : World} {v : Value} {a : Int} {p : Nat} (h : Src w0 w v a p) (k : Below w.heap.size w w') : Src w0 w' v a p :=
  ⟨h.below.trans (k.mono h.below.size), h.new, (k.cell (p := ⟨p, 0, none⟩) h.lt).trans h.code, (k.cell (p := ⟨p, 1, none⟩) h.lt).trans h.here, (k.frozen (p := ⟨p, 1, none⟩) h.lt).trans h.free⟩
theorem Src.set {w0 w : World} {v : Value} {a : Int} {p k j : Nat} (h : Src w0 w v a p) (hk : k ≠ p) (h0 : w0.heap.size ≤ k) (x : Value) : Src w0 (w.setCell ⟨k, j, none⟩ x) v a p := by
  have e : (w.setCell ⟨k, j, none⟩ x).heap[p]? = w.heap[p]? := Below.heap_setCell _ _ _ _ (show p ≠ k by omega)
  refine ⟨h.below.setCell h0 _, h.new, ?_, ?_, ?_⟩
  · exact (World.cell?_of_block (w := w) (a := ⟨p, 0, none⟩) e).trans h.code
  · exact (World.cell?_of_block (w := w) (a := ⟨p, 1, none⟩) e).trans h.here
  · rw [← h.free]; simp only [World.frozen?]; rw [e]
theorem bu_next {w0 w w' : World} {v : Value} {a : Int} {p : Nat} (h : Src w0 w' v a p) (k : ∀ b, b ≠ p → w'.heap[b]? = w.heap[b]?) : Bu p w w' := by
  refine ⟨?_, fun b _ hp => k b hp⟩
  rcases Nat.lt_or_ge w'.heap.size w.heap.size with hl | hl
  · exfalso
    have hp : w'.heap.size ≠ p := by have := h.lt; omega
    have e := k _ hp
    rw [Array.getElem?_eq_none (Nat.le_refl _), Array.getElem?_eq_getElem hl] at e
    cases e
  · exact hl
theorem nexts_of {w0 : World} {v : Value} {n : Nat} {g : Nat → Int} {p : Nat} (hB : RdB w0 v n g) (hg : ∀ i, i < n → 0 ≤ g i ∧ g i ≤ 255) (hn : n ≤ 1000000000000) : Nexts w0 v p := fun w a N hS h1 h2 h3 h4 => next_any hS hB hg hn h1 h2 h3 h4
set_option maxHeartbeats 1600000 in
theorem chance_any {w0 w : World} {v : Value} {a : Int} {p : Nat} (hS : Src w0 w v a p) (NX : Nexts w0 v p) (h0 : 0 ≤ a) (h1 : a ≤ 900) (N : Int) (hN : 1 ≤ N) (hN2 : N ≤ 1000) :
    Calls Try.prog 92 #[.pointer (some ⟨p, 0, none⟩), .int .i64 N] w fun e w' => ∃ b : Bool, e = .returned (.bool b) ∧ Src w0 w' v (a + 1) p ∧ Bu p w w' := by
  go_enter Try.func92, Try.ntmps92
  go_wp2_with fail
  refine (NX _ _ N hS (by omega) (by omega) (by omega) (by omega)).mono ?_
  rintro e w1 ⟨r1, rfl, p0, p1, hS1, hb⟩
  have U : Hid (Bu p w w1) := bu_next hS1 hb
  replace hS1 : Hid _ := hS1
  clear hS NX hb
  go_wp2
  go_ret
  exact ⟨_, rfl, hS1.out, U.out⟩
theorem pick_any {w0 w : World} {v : Value} {a : Int} {p : Nat} (hS : Src w0 w v a p) (NX : Nexts w0 v p) (h0 : 0 ≤ a) (h1 : a ≤ 1000) (b m : Nat) (hm : 1 ≤ m) (hm2 : m ≤ 100) (hb : b ≠ p) (B : Int) (hc : ∀ i, i < m → ∃ x : Int, w.cell? ⟨b, i, none⟩ = some (.int .i64 x) ∧ -B ≤ x ∧ x ≤ B) :
    Calls Try.prog 108 #[.pointer (some ⟨p, 0, none⟩), .slice (some ⟨b, 0, none⟩) m m] w fun e w' => ∃ r : Int, e = .returned (.int .i64 r) ∧ (-B ≤ r ∧ r ≤ B) ∧ Src w0 w' v (a + 1) p ∧ Bu p w w' := by
  have C : Hid (Calls Try.prog 93 #[.pointer (some ⟨p, 0, none⟩), .int .i64 m] w fun e w' => ∃ r : Int, e = .returned (.int .i64 r) ∧ 0 ≤ r ∧ r < m ∧ Src w0 w' v (a + 1) p ∧ ∀ b, b ≠ p → w'.heap[b]? = w.heap[b]?) := NX w a m hS h0 h1 (by omega) (by omega)
  have HC : Hid (∀ i, i < m → ∃ x : Int, w.cell? ⟨b, i, none⟩ = some (.int .i64 x) ∧ -B ≤ x ∧ x ≤ B) := hc
  clear hS NX hc
  go_enter Try.func108, Try.ntmps108
  go_wp2_with fail
  refine C.out.mono ?_
  rintro e w1 ⟨r, rfl, r0, r1, hS, hk⟩
  obtain ⟨i, rfl⟩ := Int.eq_ofNat_of_zero_le r0
  obtain ⟨x, hx, hxb⟩ := HC.out i (by omega)
  have hx1 : w1.cell? ⟨b, i, none⟩ = some (.int .i64 x) := by
    simp only [World.cell?] at hx ⊢
    rw [hk b hb]
    exact hx
  have U : Hid (Bu p w w1) := bu_next hS hk
  have HS : Hid (Src w0 w1 v (a + 1) p) := hS
  replace hxb : Hid _ := hxb
  clear hS hk hx C HC
  go_wp2
  go_ret
  exact ⟨x, rfl, hxb.out, HS.out, U.out⟩
end Go.Proofs.Ytloebnlmeplgbaa
