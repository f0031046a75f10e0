/- Rays near the axis, step by step, plainly; lists of rays that a call owns, compared, marked, looked for marks; marks of parts. -/
import Derived.Test.YtnikgmjjkdhjbaaPq
import Derived.Test.YtnikgmjjkdhjbaaPr
import Derived.Test.YtnikgmjjkdhjbaaPu
import Derived.Test.YtnikgmjjkdhjbaaSd
import Derived.Test.YtnikgmjjkdhjbaaMr
import Derived.Handy
import Derived.Deep.RegionHeld3
namespace Go.Proofs.Ytnikgmjjkdhjbaa
open Go.RowKit
set_option linter.unusedVariables false
set_option linter.unusedSimpArgs false
theorem op_right' {a b c d n m : Int} (hm : m ≠ 0) (h : (opC a b c d n m == 0) = true) : rightB (opN a b c d n m) (opD a b c d n m) = true := by
  unfold opC at h
  unfold opN opD
  by_cases e : (rightB a b && rightB c d) = true
  · rw [if_pos e] at h
    rw [if_pos e, if_pos e]
    unfold resC at h
    unfold resN resD
    by_cases l : lowB n m = true
    · rw [if_pos l, if_pos l]
      have := low_fault n m hm
      rw [if_pos l] at this
      unfold fault at this
      by_cases q : rightB (Fm.rN n m) (Fm.rD n m) = true
      · exact q
      · rw [if_neg q] at this; omega
    · rw [if_neg l] at h; simp at h
  · rw [if_neg e] at h; simp at h
theorem den_ne {x y : Q} (hx : x.ok = true) (hy : y.ok = true) : x.d * y.d ≠ 0 := mul_ne (by have := (right_t hx).1; omega) (by have := (right_t hy).1; omega)
theorem add_right {x y : Q} (h : addK x y = true) : (addQ x y).ok = true := op_right' (den_ne (addK_ok h).1 (addK_ok h).2) h
theorem sub_right {x y : Q} (h : subK x y = true) : (subQ x y).ok = true := op_right' (den_ne (subK_ok h).1 (subK_ok h).2) h
/-- A ray behind a part. -/
def trG (p : Pt) (r : Ry) : Ry := if p.k = 1 then ⟨addQ r.Y (mulQ p.x r.U), r.U⟩ else ⟨r.Y, subQ r.U (mulQ p.x r.Y)⟩
def trK (p : Pt) (r : Ry) : Bool := if p.k = 1 then mulK p.x r.U && addK r.Y (mulQ p.x r.U) else mulK p.x r.Y && subK r.U (mulQ p.x r.Y)
def tr (G : Nat → Pt) (r : Ry) : Nat → Ry
  | 0 => r
  | i + 1 => trG (G i) (tr G r i)
def trB (G : Nat → Pt) (r : Ry) : Nat → Bool
  | 0 => true
  | i + 1 => trB G r i && trK (G i) (tr G r i)
theorem ry_ok {r : Ry} : r.ok = (r.Y.ok && r.U.ok) := rfl
theorem trG_ok {p : Pt} {r : Ry} (h : r.ok = true) (k : trK p r = true) : (trG p r).ok = true := by
  rw [ry_ok, Bool.and_eq_true] at h
  unfold trK at k
  unfold trG
  by_cases e : p.k = 1
  · rw [if_pos e] at k ⊢
    rw [Bool.and_eq_true] at k
    rw [ry_ok, Bool.and_eq_true]
    exact ⟨add_right k.2, h.2⟩
  · rw [if_neg e] at k ⊢
    rw [Bool.and_eq_true] at k
    rw [ry_ok, Bool.and_eq_true]
    exact ⟨h.1, sub_right k.2⟩
theorem tr_ok {G : Nat → Pt} {r : Ry} (h : r.ok = true) : ∀ i, trB G r i = true → (tr G r i).ok = true
  | 0, _ => h
  | i + 1, k => by
    unfold trB at k
    rw [Bool.and_eq_true] at k
    exact trG_ok (tr_ok h i k.1) k.2
theorem trB_no {G : Nat → Pt} {r : Ry} {i n : Nat} (hi : i ≤ n) (h : trB G r i = false) : trB G r n = false := by
  induction n with
  | zero => obtain rfl : i = 0 := by omega
            exact h
  | succ n ih =>
    by_cases e : i = n + 1
    · subst e; exact h
    · unfold trB; rw [ih (by omega)]; rfl
def trC (G : Nat → Pt) (n : Nat) (r : Ry) : Int := if lC G n = 0 then (if r.ok = true then (if trB G r n = true then 0 else 3) else 1) else lC G n
def rc (r : Ry) : Nat → Value
  | 0 => .int .i64 r.Y.n
  | 1 => .int .i64 r.Y.d
  | 2 => .int .i64 r.U.n
  | _ => .int .i64 r.U.d
def rrow (r : Ry) : List Value := [.int .i64 r.Y.n, .int .i64 r.Y.d, .int .i64 r.U.n, .int .i64 r.U.d]
/-- Stores between lo and hi alone, and new blocks. -/
structure Within (lo hi : Nat) (w w' : World) : Prop where
  below : Below lo w w'
  above : ∀ k, hi ≤ k → k < w.heap.size → w'.heap[k]? = w.heap[k]?
theorem Within.refl (lo hi : Nat) (w : World) : Within lo hi w w := ⟨Below.refl _ _, fun _ _ _ => rfl⟩
theorem Within.trans {lo hi : Nat} {a b c : World} (h : Within lo hi a b) (k : Within lo hi b c) : Within lo hi a c :=
  ⟨h.below.trans k.below, fun i h1 h2 => (k.above i h1 (Nat.lt_of_lt_of_le h2 h.below.size)).trans (h.above i h1 h2)⟩
theorem Within.setCell {lo hi : Nat} {a w : World} (h : Within lo hi a w) {p : Addr} (h1 : lo ≤ p.block) (h2 : p.block < hi) (u : Value) : Within lo hi a (w.setCell p u) :=
  h.trans ⟨(Below.refl _ _).setCell h1 u, fun k hk _ => Below.heap_setCell _ _ _ _ (by omega)⟩
theorem Within.mono {lo hi lo' hi' : Nat} {a w : World} (h : Within lo hi a w) (h1 : lo' ≤ lo) (h2 : hi ≤ hi') : Within lo' hi' a w := ⟨h.below.mono h1, fun k hk hs => h.above k (by omega) hs⟩
theorem Within.later {lo hi : Nat} {a w w' : World} (h : Within lo hi a w) (b : Below w.heap.size w w') (hl : lo ≤ w.heap.size) : Within lo hi a w' :=
  ⟨h.below.trans (b.mono hl), fun k h1 h2 => (b.block k (Nat.lt_of_lt_of_le h2 h.below.size)).trans (h.above k h1 h2)⟩
theorem Blk.under {w w' : World} {b : Nat} {cs : Array Value} {t : TypeId} (h : Blk w b cs t) {a c : Nat} (k : Within a c w w') (hh : b < a ∨ c ≤ b) : Blk w' b cs t := by
  rcases hh with hh | hh
  · exact (k.below.block b hh).trans h
  · exact (k.above b hh h.lt).trans h
/-- v is nil, or a list of n values of m cells in a block from lo on, below hi. -/
def OwV (t m : Nat) (lo hi : Nat) (w : World) (v : Value) (n : Nat) (f : Nat → Nat → Value) : Prop :=
  (v = .slice none 0 0 ∧ n = 0) ∨ ∃ g cap, v = .slice (some ⟨g, 0, none⟩) n cap ∧ lo ≤ g ∧ g < hi ∧ SegV w g t n m f
namespace OwV
variable {t m lo hi : Nat} {w w' : World} {v : Value} {n : Nat} {f : Nat → Nat → Value}
theorem later (h : OwV t m lo hi w v n f) (b : Below w.heap.size w w') : OwV t m lo hi w' v n f := by
  rcases h with h | ⟨g, cap, rfl, h1, h2, h3⟩
  · exact Or.inl h
  · exact Or.inr ⟨g, cap, rfl, h1, h2, h3.below b⟩
theorem under (h : OwV t m lo hi w v n f) {a c : Nat} (b : Within a c w w') (hh : hi ≤ a ∨ c ≤ lo) : OwV t m lo hi w' v n f := by
  rcases h with h | ⟨g, cap, rfl, h1, h2, h3⟩
  · exact Or.inl h
  · refine Or.inr ⟨g, cap, rfl, h1, h2, h3.of_block ?_⟩
    rcases hh with hh | hh
    · exact b.below.block g (by omega)
    · exact b.above g (by omega) h3.lt
theorem form (h : OwV t m lo hi w v n f) : ∃ ao cap, v = .slice ao n cap := by
  rcases h with ⟨rfl, rfl⟩ | ⟨g, cap, rfl, _⟩
  · exact ⟨none, 0, rfl⟩
  · exact ⟨_, cap, rfl⟩
end OwV
set_option maxRecDepth 20000 in
set_option maxHeartbeats 1600000 in
theorem eqRay_same (r : Ry) (w : World) : Calls Try.prog 105 #[.agg #[.int .i64 r.Y.n, .int .i64 r.Y.d, .int .i64 r.U.n, .int .i64 r.U.d], .agg #[.int .i64 r.Y.n, .int .i64 r.Y.d, .int .i64 r.U.n, .int .i64 r.U.d]] w fun e w' => e = .returned (.bool true) ∧ Below w.heap.size w w' := by
  obtain ⟨w2, hw2⟩ : ∃ W, W = (w.alloc (.cells #[.int .i64 r.Y.n, .int .i64 r.Y.d, .int .i64 r.U.n, .int .i64 r.U.d] 70)).alloc (.cells #[.int .i64 r.Y.n, .int .i64 r.Y.d, .int .i64 r.U.n, .int .i64 r.U.d] 70) := ⟨_, rfl⟩
  have B : Hid (Below w.heap.size w w2) := by show Below _ _ _; rw [hw2]; exact ((Below.refl _ _).alloc (Nat.le_refl _) _).alloc (by simp) _
  have X0 : Hid (Blk w2 w.heap.size #[.int .i64 r.Y.n, .int .i64 r.Y.d, .int .i64 r.U.n, .int .i64 r.U.d] 70) := by show Blk _ _ _ _; rw [hw2]; exact (Blk.new rfl).alloc _
  have X1 : Hid (Blk w2 (w.heap.size + 1) #[.int .i64 r.Y.n, .int .i64 r.Y.d, .int .i64 r.U.n, .int .i64 r.U.d] 70) := by show Blk _ _ _ _; rw [hw2]; exact Blk.new (by simp)
  go_enter Try.func105, Try.ntmps105
  go_wp2_with fail
  rw [← hw2]
  refine (eqFrac_same r.Y.n r.Y.d _).mono ?_
  rintro e w3 ⟨rfl, hb⟩
  have c2 := (X0.out.old hb).cell (j := 2) (v := .int .i64 r.U.n) rfl
  have c3 := (X0.out.old hb).cell (j := 3) (v := .int .i64 r.U.d) rfl
  have d2 := (X1.out.old hb).cell (j := 2) (v := .int .i64 r.U.n) rfl
  have d3 := (X1.out.old hb).cell (j := 3) (v := .int .i64 r.U.d) rfl
  have B3 : Hid (Below w.heap.size w w3) := B.out.trans (hb.mono B.out.size)
  clear hb hw2 X0 X1 B
  go_wp2_with fail
  refine (eqFrac_same r.U.n r.U.d _).mono ?_
  rintro e w4 ⟨rfl, hb⟩
  have B4 : Hid (Below w.heap.size w w4) := B3.out.trans (hb.mono B3.out.size)
  clear hb B3
  go_wp2
  go_ret
  exact ⟨rfl, B4.out⟩
set_option maxRecDepth 20000 in
set_option maxHeartbeats 3200000 in
theorem eqRays_same (b cap b' cap' n : Nat) (G : Nat → Ry) (w : World) (hn : n ≤ 1000000000000) (hs : SegV w b 70 n 4 (fun i j => rc (G i) j)) (ht : SegV w b' 70 n 4 (fun i j => rc (G i) j)) :
    Calls Try.prog 83 #[.slice (some ⟨b, 0, none⟩) n cap, .slice (some ⟨b', 0, none⟩) n cap'] w fun e w' => e = .returned (.bool true) ∧ Below w.heap.size w w' := by
  have later : ∀ (wr : World) (p : Addr) {v : Value}, w.cell? p = some v → Below w.heap.size w wr → wr.cell? p = some v := fun wr p v h hb => (hb.cell (World.block_lt_of_cell? _ _ h)).trans h
  go_enter Try.func83, Try.ntmps83
  go_wp2_with fail
  go_loopw [5] (fun i wr => ∃ k : Nat, k ≤ n ∧ i = .int .i64 k ∧ Below w.heap.size w wr) (fun i _ => n - (intOf i).toNat)
  case atStart => exact ⟨0, Nat.zero_le _, rfl, Below.refl _ _⟩
  case round =>
    obtain ⟨k, hk, rfl, hb⟩ := hrel
    by_cases hkn : k < n
    · skip
      have p0 : ∀ W, Below w.heap.size w W → W.cell? ⟨b, k * 4, none⟩ = some (.int .i64 (G k).Y.n) := fun W h => later W _ (hs.cell hkn (show 0 < 4 by omega)) h
      have q0 : ∀ W, Below w.heap.size w W → W.cell? ⟨b', k * 4, none⟩ = some (.int .i64 (G k).Y.n) := fun W h => later W _ (ht.cell hkn (show 0 < 4 by omega)) h
      have p1 : ∀ W, Below w.heap.size w W → W.cell? ⟨b, k * 4 + 1, none⟩ = some (.int .i64 (G k).Y.d) := fun W h => later W _ (hs.cell hkn (show 1 < 4 by omega)) h
      have q1 : ∀ W, Below w.heap.size w W → W.cell? ⟨b', k * 4 + 1, none⟩ = some (.int .i64 (G k).Y.d) := fun W h => later W _ (ht.cell hkn (show 1 < 4 by omega)) h
      have p2 : ∀ W, Below w.heap.size w W → W.cell? ⟨b, k * 4 + 2, none⟩ = some (.int .i64 (G k).U.n) := fun W h => later W _ (hs.cell hkn (show 2 < 4 by omega)) h
      have q2 : ∀ W, Below w.heap.size w W → W.cell? ⟨b', k * 4 + 2, none⟩ = some (.int .i64 (G k).U.n) := fun W h => later W _ (ht.cell hkn (show 2 < 4 by omega)) h
      have p3 : ∀ W, Below w.heap.size w W → W.cell? ⟨b, k * 4 + 3, none⟩ = some (.int .i64 (G k).U.d) := fun W h => later W _ (hs.cell hkn (show 3 < 4 by omega)) h
      have q3 : ∀ W, Below w.heap.size w W → W.cell? ⟨b', k * 4 + 3, none⟩ = some (.int .i64 (G k).U.d) := fun W h => later W _ (ht.cell hkn (show 3 < 4 by omega)) h
      clear hs ht later
      go_wp2_with fail
      go_region_held (fun W => Below w.heap.size w W) (first | assumption | exact Below.drew ‹_›)
        (first | (go_at_call 105; refine (eqRay_same (G k) _).mono ?_; rintro e w1 ⟨rfl, hb1⟩; have hR1 := box_step ‹_› hb1 (Nat.le_refl _)))
      have HB : Hid (Below w.heap.size w w1) := hR1
      clear hR1 hb1 p0 q0 p1 q1 p2 q2 p3 q3
      go_wp2
      go_roundw
      case rel => exact ⟨k + 1, by omega, by simp, HB.out⟩
      case measure => simp [intOf]; omega
    · obtain rfl : k = n := by omega
      clear hs ht later
      go_wp2
      go_ret
      exact ⟨rfl, hb⟩
theorem eqRays_none (ao ao' : Option Addr) (cap cap' : Nat) (w : World) :
    Calls Try.prog 83 #[.slice ao 0 cap, .slice ao' 0 cap'] w fun e w' => e = .returned (.bool true) ∧ Below w.heap.size w w' := by
  go_enter Try.func83, Try.ntmps83
  go_wp2_with fail
  refine wp_loop_rounds 1 ?_
  rw [rounds_succ]
  go_wp2
  go_ret
  exact ⟨rfl, Below.refl _ _⟩
theorem eqRays_any {lo hi lo' hi' : Nat} {w : World} {v v' : Value} {n : Nat} {G : Nat → Ry} (h : OwV 70 4 lo hi w v n (fun i j => rc (G i) j)) (h' : OwV 70 4 lo' hi' w v' n (fun i j => rc (G i) j)) (hn : n ≤ 1000000000000) :
    Calls Try.prog 83 #[v, v'] w fun e w' => e = .returned (.bool true) ∧ Below w.heap.size w w' := by
  rcases h with ⟨rfl, rfl⟩ | ⟨b, cap, rfl, _, _, hs⟩
  · obtain ⟨ao', cap', rfl⟩ := h'.form
    exact eqRays_none _ _ _ _ w
  · rcases h' with ⟨rfl, rfl⟩ | ⟨b', cap', rfl, _, _, ht⟩
    · exact eqRays_none _ _ _ _ w
    · exact eqRays_same b cap b' cap' n G w hn hs ht
/-- The marks from k0 on, m of them an element. -/
def mkv (m : Nat) (k0 : Int) (i j : Nat) : Value := .int .i64 (k0 + (m * i + j : Nat))
set_option maxRecDepth 20000 in
set_option maxHeartbeats 3200000 in
theorem markR_some (b n cap : Nat) (z : Nat → Nat → Value) (k0 : Int) (w : World) (h0 : 0 ≤ k0) (h1 : k0 + 4 * n ≤ 1000000000000) (hs0 : SegV w b 70 n 4 z) :
    Calls Try.prog 84 #[.slice (some ⟨b, 0, none⟩) n cap, .int .i64 k0] w fun e w' => e = .returned (.int .i64 (k0 + 4 * n)) ∧
      SegV w' b 70 n 4 (mkv 4 k0) ∧ Within b (b + 1) w w' ∧ w'.heap.size = w.heap.size := by
  go_enter Try.func84, Try.ntmps84
  go_wp2_with fail
  go_loopw [1, 5] (fun q i wr => ∃ k : Nat, k ≤ n ∧ i = .int .i64 k ∧ q = .int .i64 (k0 + 4 * k) ∧ SegV wr b 70 n 4 (fun i j => if i < k then mkv 4 k0 i j else z i j) ∧ Within b (b + 1) w wr ∧ wr.heap.size = w.heap.size) (fun _ i _ => n - (intOf i).toNat)
  case atStart => exact ⟨0, Nat.zero_le _, rfl, by simp, hs0.congr (fun i _ j _ => by simp), Within.refl _ _ _, rfl⟩
  case round =>
    obtain ⟨k, hk, rfl, rfl, hs, hb, hz⟩ := hrel
    clear hs0
    by_cases hkn : k < n
    · skip
      have g0 : wr.cell? ⟨b, k * 4, none⟩ = some (z k 0) := by simpa using hs.cell hkn (show 0 < 4 by omega)
      have f0 : wr.frozen? ⟨b, k * 4, none⟩ = false := hs.frozen _
      have g1 : wr.cell? ⟨b, k * 4 + 1, none⟩ = some (z k 1) := by simpa using hs.cell hkn (show 1 < 4 by omega)
      have f1 : wr.frozen? ⟨b, k * 4 + 1, none⟩ = false := hs.frozen _
      have g2 : wr.cell? ⟨b, k * 4 + 2, none⟩ = some (z k 2) := by simpa using hs.cell hkn (show 2 < 4 by omega)
      have f2 : wr.frozen? ⟨b, k * 4 + 2, none⟩ = false := hs.frozen _
      have g3 : wr.cell? ⟨b, k * 4 + 3, none⟩ = some (z k 3) := by simpa using hs.cell hkn (show 3 < 4 by omega)
      have f3 : wr.frozen? ⟨b, k * 4 + 3, none⟩ = false := hs.frozen _
      have HS : Hid (SegV wr b 70 n 4 (fun i j => if i < k then mkv 4 k0 i j else z i j) ∧ Within b (b + 1) w wr ∧ wr.heap.size = w.heap.size) := ⟨hs, hb, hz⟩
      clear hs hb hz
      go_wp2
      go_roundw
      case rel =>
        obtain ⟨hs, hb, hz⟩ := HS.out
        have hset := hs
        replace hset := hset.set hkn (show 0 < 4 by omega) (.int .i64 (k0 + 4 * k))
        replace hset := hset.set hkn (show 1 < 4 by omega) (.int .i64 (k0 + 4 * k + 1))
        replace hset := hset.set hkn (show 2 < 4 by omega) (.int .i64 (k0 + 4 * k + 1 + 1))
        replace hset := hset.set hkn (show 3 < 4 by omega) (.int .i64 (k0 + 4 * k + 1 + 1 + 1))
        simp only [Nat.add_zero] at hset
        refine ⟨k + 1, by omega, by simp, by simp; omega, ?_, (((hb.setCell (Nat.le_refl _) (Nat.lt_succ_self _) _).setCell (Nat.le_refl _) (Nat.lt_succ_self _) _).setCell (Nat.le_refl _) (Nat.lt_succ_self _) _).setCell (Nat.le_refl _) (Nat.lt_succ_self _) _, by simpa using hz⟩
        refine hset.congr fun i hi j hj => ?_
        by_cases e : i = k
        · subst e
          match j, hj with
          | 0, _ => simp [mkv] <;> omega
          | 1, _ => simp [mkv] <;> omega
          | 2, _ => simp [mkv] <;> omega
          | 3, _ => simp [mkv] <;> omega
        · by_cases e2 : i < k
          · simp [e, e2, Nat.lt_succ_of_lt e2]
          · simp [e, e2]; omega
      case measure => simp [intOf]; omega
    · obtain rfl : k = n := by omega
      go_wp2
      go_ret
      exact ⟨rfl, hs.congr fun i hi j hj => by simp [hi], hb, hz⟩
theorem markR_none (ao : Option Addr) (cap : Nat) (k0 : Int) (w : World) : Calls Try.prog 84 #[.slice ao 0 cap, .int .i64 k0] w fun e w' => e = .returned (.int .i64 k0) ∧ w = w' := by
  go_enter Try.func84, Try.ntmps84
  go_wp2_with fail
  refine wp_loop_rounds 1 ?_
  rw [rounds_succ]
  go_wp2
  go_ret
  exact ⟨rfl, rfl⟩
theorem markR_own {lo hi : Nat} {w : World} {v : Value} {n : Nat} {f : Nat → Nat → Value} (h : OwV 70 4 lo hi w v n f) (k0 : Int) (h0 : 0 ≤ k0) (h1 : k0 + 4 * n ≤ 1000000000000) :
    Calls Try.prog 84 #[v, .int .i64 k0] w fun e w' => e = .returned (.int .i64 (k0 + 4 * n)) ∧ OwV 70 4 lo hi w' v n (mkv 4 k0) ∧ Within lo hi w w' ∧ w'.heap.size = w.heap.size := by
  rcases h with ⟨rfl, rfl⟩ | ⟨g, cap, rfl, h2, h3, h4⟩
  · refine (markR_none _ _ _ w).mono ?_
    rintro e w' ⟨rfl, rfl⟩
    exact ⟨by simp, Or.inl ⟨rfl, rfl⟩, Within.refl _ _ _, rfl⟩
  · refine (markR_some g n cap f k0 w h0 h1 h4).mono ?_
    rintro e w' ⟨rfl, a, b, z⟩
    exact ⟨rfl, Or.inr ⟨g, cap, rfl, h2, h3, a⟩, b.mono h2 (by omega), z⟩
set_option maxRecDepth 20000 in
set_option maxHeartbeats 3200000 in
theorem markP_some (b n cap : Nat) (z : Nat → Nat → Value) (k0 : Int) (w : World) (h0 : 0 ≤ k0) (h1 : k0 + 3 * n ≤ 1000000000000) (hs0 : SegV w b 34 n 3 z) :
    Calls Try.prog 39 #[.slice (some ⟨b, 0, none⟩) n cap, .int .i64 k0] w fun e w' => e = .returned (.int .i64 (k0 + 3 * n)) ∧
      SegV w' b 34 n 3 (mkv 3 k0) ∧ Within b (b + 1) w w' ∧ w'.heap.size = w.heap.size := by
  go_enter Try.func39, Try.ntmps39
  go_wp2_with fail
  go_loopw [1, 5] (fun q i wr => ∃ k : Nat, k ≤ n ∧ i = .int .i64 k ∧ q = .int .i64 (k0 + 3 * k) ∧ SegV wr b 34 n 3 (fun i j => if i < k then mkv 3 k0 i j else z i j) ∧ Within b (b + 1) w wr ∧ wr.heap.size = w.heap.size) (fun _ i _ => n - (intOf i).toNat)
  case atStart => exact ⟨0, Nat.zero_le _, rfl, by simp, hs0.congr (fun i _ j _ => by simp), Within.refl _ _ _, rfl⟩
  case round =>
    obtain ⟨k, hk, rfl, rfl, hs, hb, hz⟩ := hrel
    clear hs0
    by_cases hkn : k < n
    · skip
      have g0 : wr.cell? ⟨b, k * 3, none⟩ = some (z k 0) := by simpa using hs.cell hkn (show 0 < 3 by omega)
      have f0 : wr.frozen? ⟨b, k * 3, none⟩ = false := hs.frozen _
      have g1 : wr.cell? ⟨b, k * 3 + 1, none⟩ = some (z k 1) := by simpa using hs.cell hkn (show 1 < 3 by omega)
      have f1 : wr.frozen? ⟨b, k * 3 + 1, none⟩ = false := hs.frozen _
      have g2 : wr.cell? ⟨b, k * 3 + 2, none⟩ = some (z k 2) := by simpa using hs.cell hkn (show 2 < 3 by omega)
      have f2 : wr.frozen? ⟨b, k * 3 + 2, none⟩ = false := hs.frozen _
      have HS : Hid (SegV wr b 34 n 3 (fun i j => if i < k then mkv 3 k0 i j else z i j) ∧ Within b (b + 1) w wr ∧ wr.heap.size = w.heap.size) := ⟨hs, hb, hz⟩
      clear hs hb hz
      go_wp2
      go_roundw
      case rel =>
        obtain ⟨hs, hb, hz⟩ := HS.out
        have hset := hs
        replace hset := hset.set hkn (show 0 < 3 by omega) (.int .i64 (k0 + 3 * k))
        replace hset := hset.set hkn (show 1 < 3 by omega) (.int .i64 (k0 + 3 * k + 1))
        replace hset := hset.set hkn (show 2 < 3 by omega) (.int .i64 (k0 + 3 * k + 1 + 1))
        simp only [Nat.add_zero] at hset
        refine ⟨k + 1, by omega, by simp, by simp; omega, ?_, ((hb.setCell (Nat.le_refl _) (Nat.lt_succ_self _) _).setCell (Nat.le_refl _) (Nat.lt_succ_self _) _).setCell (Nat.le_refl _) (Nat.lt_succ_self _) _, by simpa using hz⟩
        refine hset.congr fun i hi j hj => ?_
        by_cases e : i = k
        · subst e
          match j, hj with
          | 0, _ => simp [mkv] <;> omega
          | 1, _ => simp [mkv] <;> omega
          | 2, _ => simp [mkv] <;> omega
        · by_cases e2 : i < k
          · simp [e, e2, Nat.lt_succ_of_lt e2]
          · simp [e, e2]; omega
      case measure => simp [intOf]; omega
    · obtain rfl : k = n := by omega
      go_wp2
      go_ret
      exact ⟨rfl, hs.congr fun i hi j hj => by simp [hi], hb, hz⟩
theorem markP_none (ao : Option Addr) (cap : Nat) (k0 : Int) (w : World) : Calls Try.prog 39 #[.slice ao 0 cap, .int .i64 k0] w fun e w' => e = .returned (.int .i64 k0) ∧ w = w' := by
  go_enter Try.func39, Try.ntmps39
  go_wp2_with fail
  refine wp_loop_rounds 1 ?_
  rw [rounds_succ]
  go_wp2
  go_ret
  exact ⟨rfl, rfl⟩
theorem markP_own {lo hi : Nat} {w : World} {v : Value} {n : Nat} {f : Nat → Nat → Value} (h : OwV 34 3 lo hi w v n f) (k0 : Int) (h0 : 0 ≤ k0) (h1 : k0 + 3 * n ≤ 1000000000000) :
    Calls Try.prog 39 #[v, .int .i64 k0] w fun e w' => e = .returned (.int .i64 (k0 + 3 * n)) ∧ OwV 34 3 lo hi w' v n (mkv 3 k0) ∧ Within lo hi w w' ∧ w'.heap.size = w.heap.size := by
  rcases h with ⟨rfl, rfl⟩ | ⟨g, cap, rfl, h2, h3, h4⟩
  · refine (markP_none _ _ _ w).mono ?_
    rintro e w' ⟨rfl, rfl⟩
    exact ⟨by simp, Or.inl ⟨rfl, rfl⟩, Within.refl _ _ _, rfl⟩
  · refine (markP_some g n cap f k0 w h0 h1 h4).mono ?_
    rintro e w' ⟨rfl, a, b, z⟩
    exact ⟨rfl, Or.inr ⟨g, cap, rfl, h2, h3, a⟩, b.mono h2 (by omega), z⟩
set_option maxRecDepth 20000 in
set_option maxHeartbeats 3200000 in
theorem heldR_some (b n cap : Nat) (k0 : Int) (w : World) (h0 : 0 ≤ k0) (h1 : k0 + 4 * n ≤ 1000000000000) (hc : SegV w b 70 n 4 (mkv 4 k0)) :
    Calls Try.prog 85 #[.slice (some ⟨b, 0, none⟩) n cap, .int .i64 k0] w fun e w' => e = .returned (.int .i64 (k0 + 4 * n)) ∧ w = w' := by
  go_enter Try.func85, Try.ntmps85
  go_wp2_with fail
  go_loopw [1, 5] (fun q i wr => wr = w ∧ ∃ k : Nat, k ≤ n ∧ i = .int .i64 k ∧ q = .int .i64 (k0 + 4 * k)) (fun _ i _ => n - (intOf i).toNat)
  case atStart => exact ⟨rfl, 0, Nat.zero_le _, rfl, by simp⟩
  case round =>
    obtain ⟨rfl, k, hk, rfl, rfl⟩ := hrel
    by_cases hkn : k < n
    · have g0 : wr.cell? ⟨b, k * 4, none⟩ = some (.int .i64 (k0 + 4 * k)) := by rw [show k * 4 = k * 4 + 0 from rfl, hc.cell hkn (show 0 < 4 by omega)]; simp [mkv]
      have g1 : wr.cell? ⟨b, k * 4 + 1, none⟩ = some (.int .i64 (k0 + 4 * k + 1)) := by rw [hc.cell hkn (show 1 < 4 by omega)]; simp [mkv]; omega
      have g2 : wr.cell? ⟨b, k * 4 + 2, none⟩ = some (.int .i64 (k0 + 4 * k + 1 + 1)) := by rw [hc.cell hkn (show 2 < 4 by omega)]; simp [mkv]; omega
      have g3 : wr.cell? ⟨b, k * 4 + 3, none⟩ = some (.int .i64 (k0 + 4 * k + 1 + 1 + 1)) := by rw [hc.cell hkn (show 3 < 4 by omega)]; simp [mkv]; omega
      clear hc
      go_wp2
      go_roundw
      case rel => exact ⟨by trivial, k + 1, by omega, by simp, by simp; omega⟩
      case measure => simp [intOf]; omega
    · obtain rfl : k = n := by omega
      clear hc
      go_wp2
      go_ret
      exact ⟨rfl, rfl⟩
theorem heldR_none (ao : Option Addr) (cap : Nat) (k0 : Int) (w : World) : Calls Try.prog 85 #[.slice ao 0 cap, .int .i64 k0] w fun e w' => e = .returned (.int .i64 k0) ∧ w = w' := by
  go_enter Try.func85, Try.ntmps85
  go_wp2_with fail
  refine wp_loop_rounds 1 ?_
  rw [rounds_succ]
  go_wp2
  go_ret
  exact ⟨rfl, rfl⟩
theorem heldR_own {lo hi : Nat} {w : World} {v : Value} {n : Nat} {k0 : Int} (h : OwV 70 4 lo hi w v n (mkv 4 k0)) (h0 : 0 ≤ k0) (h1 : k0 + 4 * n ≤ 1000000000000) :
    Calls Try.prog 85 #[v, .int .i64 k0] w fun e w' => e = .returned (.int .i64 (k0 + 4 * n)) ∧ w = w' := by
  rcases h with ⟨rfl, rfl⟩ | ⟨g, cap, rfl, h2, h3, h4⟩
  · refine (heldR_none _ _ _ w).mono ?_
    rintro e w' ⟨rfl, rfl⟩
    exact ⟨by simp, rfl⟩
  · exact heldR_some g n cap k0 w h0 h1 h4
abbrev Pl (c : Int) (v : Value) : Value := .agg #[.int .i64 c, v]
set_option maxRecDepth 20000 in
theorem eqPl_same {lo hi lo' hi' : Nat} {w : World} {v v' : Value} {n : Nat} {G : Nat → Ry} {c : Int} (h : OwV 70 4 lo hi w v n (fun i j => rc (G i) j)) (h' : OwV 70 4 lo' hi' w v' n (fun i j => rc (G i) j)) (hn : n ≤ 1000000000000) :
    Calls Try.prog 38 #[Pl c v, Pl c v'] w fun e w' => e = .returned (.bool true) ∧ Below w.heap.size w w' := by
  have HR : Hid (∀ W, Below w.heap.size w W → Calls Try.prog 83 #[v, v'] W fun e w' => e = .returned (.bool true) ∧ Below W.heap.size W w') := fun W b => eqRays_any (h.later b) (h'.later b) hn
  clear h h'
  obtain ⟨w2, hw2⟩ : ∃ W, W = (w.alloc (.cells #[.int .i64 c, v] 67)).alloc (.cells #[.int .i64 c, v'] 67) := ⟨_, rfl⟩
  have B : Hid (Below w.heap.size w w2) := by show Below _ _ _; rw [hw2]; exact ((Below.refl _ _).alloc (Nat.le_refl _) _).alloc (by simp) _
  go_enter Try.func38, Try.ntmps38
  go_wp2_with fail
  rw [← hw2]
  refine (HR.out _ B.out).mono ?_
  rintro e w3 ⟨rfl, b⟩
  have HB : Hid (Below w.heap.size w w3) := B.out.trans (b.mono B.out.size)
  clear hw2 B b HR
  go_wp2
  go_ret
  exact ⟨rfl, HB.out⟩
set_option maxRecDepth 20000 in
theorem markPl_own {lo hi : Nat} {w : World} {v : Value} {n : Nat} {f : Nat → Nat → Value} {c : Int} (h : OwV 70 4 lo hi w v n f) (hl : lo ≤ w.heap.size) (k0 : Int) (h0 : 0 ≤ k0) (h1 : k0 + 4 * n ≤ 1000000000000) :
    Calls Try.prog 40 #[Pl c v, .int .i64 k0] w fun e w' => e = .returned (.int .i64 (k0 + 4 * n)) ∧ OwV 70 4 lo hi w' v n (mkv 4 k0) ∧ Within lo hi w w' ∧ w.heap.size ≤ w'.heap.size := by
  obtain ⟨w2, hw2⟩ : ∃ W, W = w.alloc (.cells #[.int .i64 c, v] 67) := ⟨_, rfl⟩
  have hb : Below w.heap.size w w2 := by rw [hw2]; exact (Below.refl _ _).alloc (Nat.le_refl _) _
  have W0 : Within lo hi w w2 := (Within.refl lo hi w).later hb hl
  have HM : Hid (Calls Try.prog 84 #[v, .int .i64 k0] w2 fun e w' => e = .returned (.int .i64 (k0 + 4 * n)) ∧ (OwV 70 4 lo hi w' v n (mkv 4 k0) ∧ Within lo hi w w' ∧ w.heap.size ≤ w'.heap.size)) := by
    refine (markR_own (h.later hb) k0 h0 h1).mono ?_
    rintro e w' ⟨rfl, a, b, z⟩
    exact ⟨rfl, a, W0.trans b, by have := hb.size; omega⟩
  clear h hb W0
  go_enter Try.func40, Try.ntmps40
  go_wp2_with fail
  rw [← hw2]
  refine HM.out.mono ?_
  rintro e w3 ⟨rfl, h9⟩
  replace h9 : Hid _ := h9
  go_wp2
  go_ret
  exact ⟨rfl, h9.out⟩
set_option maxRecDepth 20000 in
theorem heldPl_own {lo hi : Nat} {w : World} {v : Value} {n : Nat} {c : Int} {k0 : Int} (h : OwV 70 4 lo hi w v n (mkv 4 k0)) (h0 : 0 ≤ k0) (h1 : k0 + 4 * n ≤ 1000000000000) :
    Calls Try.prog 41 #[Pl c v, .int .i64 k0] w fun e w' => e = .returned (.int .i64 (k0 + 4 * n)) ∧ Below w.heap.size w w' := by
  obtain ⟨w2, hw2⟩ : ∃ W, W = w.alloc (.cells #[.int .i64 c, v] 67) := ⟨_, rfl⟩
  have hb : Below w.heap.size w w2 := by rw [hw2]; exact (Below.refl _ _).alloc (Nat.le_refl _) _
  obtain ⟨M, hM⟩ : ∃ M : Int, M = k0 + 4 * n := ⟨_, rfl⟩
  have hM0 : ¬ M < 0 := by omega
  have HM : Hid (Calls Try.prog 85 #[v, .int .i64 k0] w2 fun e w' => e = .returned (.int .i64 M) ∧ w2 = w') := by
    rw [hM]
    exact heldR_own (h.later hb) h0 h1
  rw [← hM]
  have HB : Hid (Below w.heap.size w w2) := hb
  clear h hb hM h0 h1
  go_enter Try.func41, Try.ntmps41
  go_wp2_with fail
  rw [← hw2]
  clear hw2
  refine HM.out.mono ?_
  rintro e w3 ⟨rfl, rfl⟩
  go_wp2
  go_ret
  exact ⟨rfl, HB.out⟩
/-- What is answered: a code and a list of rays in memory of its own. -/
def PX (fn : FuncId) (args : Array Value) (w : World) (c : Int) (n : Nat) (G : Nat → Ry) : Prop :=
  Calls Try.prog fn args w fun e w' => ∃ v, e = .returned (Pl c v) ∧ OwV 70 4 w.heap.size w'.heap.size w' v n (fun i j => rc (G i) j) ∧ Below w.heap.size w w'
end Go.Proofs.Ytnikgmjjkdhjbaa
