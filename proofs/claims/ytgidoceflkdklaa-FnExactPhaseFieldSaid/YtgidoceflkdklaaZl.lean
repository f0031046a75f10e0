/- Lists of complex numbers: owned ones, compared, marked, looked for marks; a code and such a list. -/
import Derived.Test.YtgidoceflkdklaaBn
import Derived.Test.YtgidoceflkdklaaSu
import Derived.Test.YtgidoceflkdklaaSz
namespace Go.Proofs.Ytgidoceflkdklaa
open Go.RowKit Fl
set_option linter.unusedVariables false
set_option linter.unusedSimpArgs false
/-- v is nil, or a list of n complex numbers in a block from lo on, below hi. -/
def OwZ (lo hi : Nat) (w : World) (v : Value) (n : Nat) (f : Nat → Nat → Nat) : Prop :=
  (v = .slice none 0 0 ∧ n = 0) ∨ ∃ g cap, v = .slice (some ⟨g, 0, none⟩) n cap ∧ lo ≤ g ∧ g < hi ∧ SegM w g 75 n 2 f
namespace OwZ
variable {lo hi : Nat} {w w' : World} {v : Value} {n : Nat} {f g : Nat → Nat → Nat}
theorem later (h : OwZ lo hi w v n f) (b : Below w.heap.size w w') : OwZ lo hi w' v n f := by
  rcases h with h | ⟨g, cap, rfl, h1, h2, h3⟩
  · exact Or.inl h
  · exact Or.inr ⟨g, cap, rfl, h1, h2, h3.below b⟩
theorem under (h : OwZ lo hi w v n f) {a c : Nat} (b : Within a c w w') (hh : hi ≤ a ∨ c ≤ lo) : OwZ lo hi w' v n f := by
  rcases h with h | ⟨g, cap, rfl, h1, h2, h3⟩
  · exact Or.inl h
  · refine Or.inr ⟨g, cap, rfl, h1, h2, h3.of_block ?_⟩
    rcases hh with hh | hh
    · exact b.below.block g (by omega)
    · exact b.above g (by omega) h3.lt
theorem congr (h : OwZ lo hi w v n f) (e : ∀ i, i < n → ∀ j, j < 2 → f i j = g i j) : OwZ lo hi w v n g := by
  rcases h with h | ⟨g, cap, rfl, h1, h2, h3⟩
  · exact Or.inl h
  · exact Or.inr ⟨g, cap, rfl, h1, h2, h3.congr e⟩
theorem form (h : OwZ lo hi w v n f) : ∃ ao cap, v = .slice ao n cap := by
  rcases h with ⟨rfl, rfl⟩ | ⟨g, cap, rfl, _⟩
  · exact ⟨none, 0, rfl⟩
  · exact ⟨_, cap, rfl⟩
theorem rd (h : OwZ lo hi w v n f) : RdM w v n 2 f := by
  rcases h with ⟨rfl, rfl⟩ | ⟨g, cap, rfl, _, _, h⟩
  · exact Or.inl ⟨none, 0, rfl, rfl⟩
  · exact Or.inr ⟨g, 0, cap, rfl, fun i hi j hj => by rw [Nat.zero_add]; exact h.cell hi hj⟩
end OwZ
theorem eqZS_some (b off cap b' off' cap' n : Nat) (f g : Nat → Nat → Nat) (o : Nat → Option Nat × Option Nat) (w : World) (hn : n ≤ 1000000000000) (hs : ∀ i, i < n → ∀ j, j < 2 → w.cell? ⟨b, off + i * 2 + j, none⟩ = some (.float .f64 (f i j)))
    (ht : ∀ i, i < n → ∀ j, j < 2 → w.cell? ⟨b', off' + i * 2 + j, none⟩ = some (.float .f64 (g i j))) (hf : ∀ i, i < n → Zc (f i 0) (f i 1) (o i)) (hg : ∀ i, i < n → Zc (g i 0) (g i 1) (o i)) :
    Calls Try.prog 24 #[.slice (some ⟨b, off, none⟩) n cap, .slice (some ⟨b', off', none⟩) n cap'] w fun e w' => e = .returned (.bool true) ∧ Below w.heap.size w w' := by
  have later : ∀ (wr : World) (p : Addr) {v : Value}, w.cell? p = some v → Below w.heap.size w wr → wr.cell? p = some v := fun wr p v h hb => (hb.cell (World.block_lt_of_cell? _ _ h)).trans h
  have HF : Hid (∀ i, i < n → Zc (f i 0) (f i 1) (o i)) := hf
  have HG : Hid (∀ i, i < n → Zc (g i 0) (g i 1) (o i)) := hg
  clear hf hg
  go_enter Try.func24, Try.ntmps24
  go_wp2_with fail
  go_loopw [5] (fun i wr => ∃ k : Nat, k ≤ n ∧ i = .int .i64 k ∧ Below w.heap.size w wr) (fun i _ => n - (intOf i).toNat)
  case atStart => exact ⟨0, Nat.zero_le _, rfl, Below.refl _ _⟩
  case round =>
    obtain ⟨k, hk, rfl, hb⟩ := hrel
    by_cases hkn : k < n
    · have HZ := HF.out k hkn
      have HY := HG.out k hkn
      have p0 : ∀ W, Below w.heap.size w W → W.cell? ⟨b, off + k * 2, none⟩ = some (.float .f64 (f k 0)) := fun W h => later W _ (hs k hkn 0 (by omega)) h
      have q0 : ∀ W, Below w.heap.size w W → W.cell? ⟨b', off' + k * 2, none⟩ = some (.float .f64 (g k 0)) := fun W h => later W _ (ht k hkn 0 (by omega)) h
      have p1 : ∀ W, Below w.heap.size w W → W.cell? ⟨b, off + k * 2 + 1, none⟩ = some (.float .f64 (f k 1)) := fun W h => later W _ (hs k hkn 1 (by omega)) h
      have q1 : ∀ W, Below w.heap.size w W → W.cell? ⟨b', off' + k * 2 + 1, none⟩ = some (.float .f64 (g k 1)) := fun W h => later W _ (ht k hkn 1 (by omega)) h
      clear hs ht later HF HG
      go_wp2_with fail
      go_region_held (fun W => Below w.heap.size w W) (first | assumption | exact Below.drew ‹_›)
        (first | (go_at_call 63; refine (eqZ_same HZ HY _).mono ?_; rintro e w1 ⟨rfl, hb1⟩; have hR1 := box_step ‹_› hb1 (Nat.le_refl _)))
      have HB : Hid (Below w.heap.size w w1) := hR1
      clear hR1 hb1 p0 q0 p1 q1
      go_wp2
      go_roundw
      case rel => exact ⟨k + 1, by omega, by simp, HB.out⟩
      case measure => simp [intOf]; omega
    · obtain rfl : k = n := by omega
      clear hs ht later HF HG
      go_wp2
      go_ret
      exact ⟨rfl, hb⟩
theorem eqZS_none (ao ao' : Option Addr) (cap cap' : Nat) (w : World) :
    Calls Try.prog 24 #[.slice ao 0 cap, .slice ao' 0 cap'] w fun e w' => e = .returned (.bool true) ∧ Below w.heap.size w w' := by
  go_enter Try.func24, Try.ntmps24
  go_wp2_with fail
  refine wp_loop_rounds 1 ?_
  rw [rounds_succ]
  go_wp2
  go_ret
  exact ⟨rfl, Below.refl _ _⟩
theorem eqZS_any {w : World} {v v' : Value} {n : Nat} {f g : Nat → Nat → Nat} {o : Nat → Option Nat × Option Nat} (h : RdM w v n 2 f) (h' : RdM w v' n 2 g) (hn : n ≤ 1000000000000) (hf : ∀ i, i < n → Zc (f i 0) (f i 1) (o i)) (hg : ∀ i, i < n → Zc (g i 0) (g i 1) (o i)) :
    Calls Try.prog 24 #[v, v'] w fun e w' => e = .returned (.bool true) ∧ Below w.heap.size w w' := by
  rcases h with ⟨ao, cap, rfl, rfl⟩ | ⟨b, off, cap, rfl, hc⟩
  · obtain ⟨ao', cap', rfl⟩ := h'.form
    exact eqZS_none _ _ _ _ w
  · rcases h' with ⟨ao', cap', rfl, rfl⟩ | ⟨b', off', cap', rfl, hc'⟩
    · exact eqZS_none _ _ _ _ w
    · exact eqZS_some b off cap b' off' cap' n f g o w hn hc hc' hf hg
/-- The marks from k0 on. -/
def mz (k0 : Int) (i j : Nat) : Nat := mk (k0 + (2 * i + j : Nat))
set_option maxHeartbeats 1600000 in
theorem markZS_some (b n cap : Nat) (z : Nat → Nat → Nat) (k0 : Int) (w : World) (h0 : 0 ≤ k0) (h1 : k0 + 2 * n ≤ 1000000000000) (hs0 : SegM w b 75 n 2 z) :
    Calls Try.prog 25 #[.slice (some ⟨b, 0, none⟩) n cap, .int .i64 k0] w fun e w' => e = .returned (.int .i64 (k0 + 2 * n)) ∧
      SegM w' b 75 n 2 (mz k0) ∧ Within b (b + 1) w w' ∧ w'.heap.size = w.heap.size := by
  have hst := st64
  go_enter Try.func25, Try.ntmps25
  go_wp2_with fail
  go_loopw [1, 5] (fun q i wr => ∃ k : Nat, k ≤ n ∧ i = .int .i64 k ∧ q = .int .i64 (k0 + 2 * k) ∧ SegM wr b 75 n 2 (fun i j => if i < k then mz k0 i j else z i j) ∧ Within b (b + 1) w wr ∧ wr.heap.size = w.heap.size) (fun _ i _ => n - (intOf i).toNat)
  case atStart => exact ⟨0, Nat.zero_le _, rfl, by simp, hs0.congr (fun i _ j _ => by simp), Within.refl _ _ _, rfl⟩
  case round =>
    obtain ⟨k, hk, rfl, rfl, hs, hb, hz⟩ := hrel
    clear hs0
    by_cases hkn : k < n
    · have g2 : wr.cell? ⟨b, k * 2, none⟩ = some (.float .f64 (z k 0)) := by simpa using hs.cell hkn (show 0 < 2 by omega)
      have g3 : wr.frozen? ⟨b, k * 2, none⟩ = false := hs.frozen _
      have g4 : wr.cell? ⟨b, k * 2 + 1, none⟩ = some (.float .f64 (z k 1)) := by simpa using hs.cell hkn (show 1 < 2 by omega)
      have g5 : wr.frozen? ⟨b, k * 2 + 1, none⟩ = false := hs.frozen _
      have HS : Hid (SegM wr b 75 n 2 (fun i j => if i < k then mz k0 i j else z i j) ∧ Within b (b + 1) w wr ∧ wr.heap.size = w.heap.size) := ⟨hs, hb, hz⟩
      clear hs hb hz
      go_wp2
      go_roundw
      case rel =>
        obtain ⟨hs, hb, hz⟩ := HS.out
        refine ⟨k + 1, by omega, by simp, by simp; omega, ?_, (hb.setCell (Nat.le_refl _) (Nat.lt_succ_self _) _).setCell (Nat.le_refl _) (Nat.lt_succ_self _) _, by simpa using hz⟩
        have := (hs.set hkn (show 0 < 2 by omega) (mk (k0 + 2 * k))).set hkn (show 1 < 2 by omega) (mk (k0 + 2 * k + 1))
        rw [Nat.add_zero] at this
        refine this.congr fun i hi j hj => ?_
        by_cases e : i = k
        · subst e
          match j, hj with
          | 0, _ => simp [mz]
          | 1, _ => simp [mz]; congr 1; omega
        · by_cases e2 : i < k
          · simp [e, e2, Nat.lt_succ_of_lt e2]
          · simp [e, e2]; intro h; omega
      case measure => simp [intOf]; omega
    · obtain rfl : k = n := by omega
      go_wp2
      go_ret
      exact ⟨rfl, hs.congr fun i hi j hj => by simp [hi], hb, hz⟩
theorem markZS_none (ao : Option Addr) (cap : Nat) (k0 : Int) (w : World) : Calls Try.prog 25 #[.slice ao 0 cap, .int .i64 k0] w fun e w' => e = .returned (.int .i64 k0) ∧ w = w' := by
  go_enter Try.func25, Try.ntmps25
  go_wp2_with fail
  refine wp_loop_rounds 1 ?_
  rw [rounds_succ]
  go_wp2
  go_ret
  exact ⟨rfl, rfl⟩
theorem markZ_own {lo hi : Nat} {w : World} {v : Value} {n : Nat} {f : Nat → Nat → Nat} (h : OwZ lo hi w v n f) (k0 : Int) (h0 : 0 ≤ k0) (h1 : k0 + 2 * n ≤ 1000000000000) :
    Calls Try.prog 25 #[v, .int .i64 k0] w fun e w' => e = .returned (.int .i64 (k0 + 2 * n)) ∧ OwZ lo hi w' v n (mz k0) ∧ Within lo hi w w' ∧ w'.heap.size = w.heap.size := by
  rcases h with ⟨rfl, rfl⟩ | ⟨g, cap, rfl, h2, h3, h4⟩
  · refine (markZS_none _ _ _ w).mono ?_
    rintro e w' ⟨rfl, rfl⟩
    exact ⟨by simp, Or.inl ⟨rfl, rfl⟩, Within.refl _ _ _, rfl⟩
  · refine (markZS_some g n cap f k0 w h0 h1 h4).mono ?_
    rintro e w' ⟨rfl, a, b, z⟩
    exact ⟨rfl, Or.inr ⟨g, cap, rfl, h2, h3, a⟩, b.mono h2 (by omega), z⟩
set_option maxHeartbeats 1600000 in
theorem heldZS_some (b n cap : Nat) (k0 : Int) (w : World) (h0 : 0 ≤ k0) (h1 : k0 + 2 * n ≤ 1000000000000) (hc : SegM w b 75 n 2 (mz k0)) :
    Calls Try.prog 64 #[.slice (some ⟨b, 0, none⟩) n cap, .int .i64 k0] w fun e w' => e = .returned (.int .i64 (k0 + 2 * n)) ∧ w = w' := by
  go_enter Try.func64, Try.ntmps64
  go_wp2_with fail
  go_loopw [1, 5] (fun q i wr => wr = w ∧ ∃ k : Nat, k ≤ n ∧ i = .int .i64 k ∧ q = .int .i64 (k0 + 2 * k)) (fun _ i _ => n - (intOf i).toNat)
  case atStart => exact ⟨rfl, 0, Nat.zero_le _, rfl, by simp⟩
  case round =>
    obtain ⟨rfl, k, hk, rfl, rfl⟩ := hrel
    by_cases hkn : k < n
    · have g0 : wr.cell? ⟨b, k * 2, none⟩ = some (.float .f64 (mk (k0 + 2 * k))) := by have := hc.cell hkn (show 0 < 2 by omega); simpa [mz] using this
      have g1 : wr.cell? ⟨b, k * 2 + 1, none⟩ = some (.float .f64 (mk (k0 + 2 * k + 1))) := by have := hc.cell hkn (show 1 < 2 by omega); rw [this]; simp [mz]; congr 1; omega
      have ho := mk_self (k := k0 + 2 * k) (by omega) (by omega)
      have ho1 := mk_self (k := k0 + 2 * k + 1) (by omega) (by omega)
      clear hc
      go_wp2
      go_roundw
      case rel => exact ⟨by trivial, k + 1, by omega, by simp, by simp; omega⟩
      case measure => simp [intOf]; omega
    · obtain rfl : k = n := by omega
      clear hc
      go_wp2
      go_ret
      exact ⟨rfl, rfl⟩
theorem heldZS_none (ao : Option Addr) (cap : Nat) (k0 : Int) (w : World) : Calls Try.prog 64 #[.slice ao 0 cap, .int .i64 k0] w fun e w' => e = .returned (.int .i64 k0) ∧ w = w' := by
  go_enter Try.func64, Try.ntmps64
  go_wp2_with fail
  refine wp_loop_rounds 1 ?_
  rw [rounds_succ]
  go_wp2
  go_ret
  exact ⟨rfl, rfl⟩
theorem heldZ_own {lo hi : Nat} {w : World} {v : Value} {n : Nat} {k0 : Int} (h : OwZ lo hi w v n (mz k0)) (h0 : 0 ≤ k0) (h1 : k0 + 2 * n ≤ 1000000000000) :
    Calls Try.prog 64 #[v, .int .i64 k0] w fun e w' => e = .returned (.int .i64 (k0 + 2 * n)) ∧ w = w' := by
  rcases h with ⟨rfl, rfl⟩ | ⟨g, cap, rfl, h2, h3, h4⟩
  · refine (heldZS_none _ _ _ w).mono ?_
    rintro e w' ⟨rfl, rfl⟩
    exact ⟨by simp, rfl⟩
  · exact heldZS_some g n cap k0 w h0 h1 h4
abbrev Zl (c : Int) (v : Value) : Value := .agg #[.int .i64 c, v]
set_option maxRecDepth 20000 in
theorem eqZList_same {w : World} {v v' : Value} {n : Nat} {f g : Nat → Nat → Nat} {o : Nat → Option Nat × Option Nat} {c : Int} (h : RdM w v n 2 f) (h' : RdM w v' n 2 g) (hn : n ≤ 1000000000000) (hf : ∀ i, i < n → Zc (f i 0) (f i 1) (o i)) (hg : ∀ i, i < n → Zc (g i 0) (g i 1) (o i)) :
    Calls Try.prog 23 #[Zl c v, Zl c v'] w fun e w' => e = .returned (.bool true) ∧ Below w.heap.size w w' := by
  have HR : Hid (∀ W, Below w.heap.size w W → Calls Try.prog 24 #[v, v'] W fun e w' => e = .returned (.bool true) ∧ Below W.heap.size W w') := fun W b => eqZS_any (h.later b) (h'.later b) hn hf hg
  clear h h' hf hg
  obtain ⟨w2, hw2⟩ : ∃ W, W = (w.alloc (.cells #[.int .i64 c, v] 36)).alloc (.cells #[.int .i64 c, v'] 36) := ⟨_, rfl⟩
  have B : Hid (Below w.heap.size w w2) := by show Below _ _ _; rw [hw2]; exact ((Below.refl _ _).alloc (Nat.le_refl _) _).alloc (by simp) _
  go_enter Try.func23, Try.ntmps23
  go_wp2_with fail
  rw [← hw2]
  refine (HR.out _ B.out).mono ?_
  rintro e w3 ⟨rfl, b⟩
  have HB : Hid (Below w.heap.size w w3) := B.out.trans (b.mono B.out.size)
  clear hw2 B b HR
  go_wp2
  go_ret
  exact ⟨rfl, HB.out⟩
set_option maxRecDepth 20000 in
theorem markZList_own {lo hi : Nat} {w : World} {v : Value} {n : Nat} {f : Nat → Nat → Nat} {c : Int} (h : OwZ lo hi w v n f) (hl : lo ≤ w.heap.size) (k0 : Int) (h0 : 0 ≤ k0) (h1 : k0 + 2 * n ≤ 1000000000000) :
    Calls Try.prog 26 #[Zl c v, .int .i64 k0] w fun e w' => e = .returned (.int .i64 (k0 + 2 * n)) ∧ OwZ lo hi w' v n (mz k0) ∧ Within lo hi w w' ∧ w.heap.size ≤ w'.heap.size := by
  obtain ⟨w2, hw2⟩ : ∃ W, W = w.alloc (.cells #[.int .i64 c, v] 36) := ⟨_, rfl⟩
  have hb : Below w.heap.size w w2 := by rw [hw2]; exact (Below.refl _ _).alloc (Nat.le_refl _) _
  have W0 : Within lo hi w w2 := (Within.refl lo hi w).later hb hl
  have HM : Hid (Calls Try.prog 25 #[v, .int .i64 k0] w2 fun e w' => e = .returned (.int .i64 (k0 + 2 * n)) ∧ (OwZ lo hi w' v n (mz k0) ∧ Within lo hi w w' ∧ w.heap.size ≤ w'.heap.size)) := by
    refine (markZ_own (h.later hb) k0 h0 h1).mono ?_
    rintro e w' ⟨rfl, a, b, z⟩
    exact ⟨rfl, a, W0.trans b, by have := hb.size; omega⟩
  clear h hb W0
  go_enter Try.func26, Try.ntmps26
  go_wp2_with fail
  rw [← hw2]
  refine HM.out.mono ?_
  rintro e w3 ⟨rfl, h9⟩
  replace h9 : Hid _ := h9
  go_wp2
  go_ret
  exact ⟨rfl, h9.out⟩
set_option maxRecDepth 20000 in
theorem heldZList_own {lo hi : Nat} {w : World} {v : Value} {n : Nat} {c : Int} {k0 : Int} (h : OwZ lo hi w v n (mz k0)) (h0 : 0 ≤ k0) (h1 : k0 + 2 * n ≤ 1000000000000) :
    Calls Try.prog 27 #[Zl c v, .int .i64 k0] w fun e w' => e = .returned (.int .i64 (k0 + 2 * n)) ∧ Below w.heap.size w w' := by
  obtain ⟨w2, hw2⟩ : ∃ W, W = w.alloc (.cells #[.int .i64 c, v] 36) := ⟨_, rfl⟩
  have hb : Below w.heap.size w w2 := by rw [hw2]; exact (Below.refl _ _).alloc (Nat.le_refl _) _
  obtain ⟨M, hM⟩ : ∃ M : Int, M = k0 + 2 * n := ⟨_, rfl⟩
  have hM0 : ¬ M < 0 := by omega
  have HM : Hid (Calls Try.prog 64 #[v, .int .i64 k0] w2 fun e w' => e = .returned (.int .i64 M) ∧ w2 = w') := by
    rw [hM]
    exact heldZ_own (h.later hb) h0 h1
  rw [← hM]
  have HB : Hid (Below w.heap.size w w2) := hb
  clear h hb hM h0 h1
  go_enter Try.func27, Try.ntmps27
  go_wp2_with fail
  rw [← hw2]
  clear hw2
  refine HM.out.mono ?_
  rintro e w3 ⟨rfl, rfl⟩
  go_wp2
  go_ret
  exact ⟨rfl, HB.out⟩
/-- What is answered: a code and a list of complex numbers of these classes, in memory of its own. -/
def ZX (fn : FuncId) (args : Array Value) (w : World) (c : Int) (n : Nat) (o : Nat → Option Nat × Option Nat) : Prop :=
  Calls Try.prog fn args w fun e w' => ∃ v f, e = .returned (Zl c v) ∧ OwZ w.heap.size w'.heap.size w' v n f ∧ (∀ i, i < n → Zc (f i 0) (f i 1) (o i)) ∧ Below w.heap.size w w'
end Go.Proofs.Ytgidoceflkdklaa
