/- Lists of numbers: the laws' own copies, comparisons and marks; answers of books of flux. -/
import Derived.Test.YtgidoceflkdklaaOw
namespace Go.Proofs.Ytgidoceflkdklaa
open Go.RowKit Fl
set_option linter.unusedVariables false
set_option linter.unusedSimpArgs false
/-- v is a slice of n numbers f, to be read. -/
def RdRow (w : World) (v : Value) (n : Nat) (f : Nat → Int) : Prop :=
  (∃ ao cap, v = .slice ao 0 cap ∧ n = 0) ∨ ∃ b off cap, v = .slice (some ⟨b, off, none⟩) n cap ∧ ∀ i, i < n → w.cell? ⟨b, off + i, none⟩ = some (.int .i64 (f i))
theorem RdRow.later {w w' : World} {v : Value} {n : Nat} {f : Nat → Int} (h : RdRow w v n f) (hb : Below w.heap.size w w') : RdRow w' v n f := by
  rcases h with h | ⟨b, off, cap, rfl, h⟩
  · exact Or.inl h
  · exact Or.inr ⟨b, off, cap, rfl, fun i hi => (hb.cell (World.block_lt_of_cell? _ _ (h i hi))).trans (h i hi)⟩
theorem RdRow.congr {w : World} {v : Value} {n : Nat} {f g : Nat → Int} (h : RdRow w v n f) (e : ∀ i, i < n → f i = g i) : RdRow w v n g := by
  rcases h with h | ⟨b, off, cap, rfl, h⟩
  · exact Or.inl h
  · exact Or.inr ⟨b, off, cap, rfl, fun i hi => by rw [h i hi, e i hi]⟩
theorem Seg.rdI {w : World} {b : Nat} {t : TypeId} {off n cap : Nat} {f : Nat → Int} (h : Seg w b t off n (fun i => .int .i64 (f i))) : RdRow w (.slice (some ⟨b, off, none⟩) n cap) n f :=
  Or.inr ⟨b, off, cap, rfl, fun _ hi => h.cell hi⟩
theorem RdRow.nil (w : World) (f : Nat → Int) : RdRow w (.slice none 0 0) 0 f := Or.inl ⟨none, 0, rfl, rfl⟩

theorem info2 : (Try.prog.info? 2).map (fun i => (i.zero, i.size, i.bytes)) = some (some (.int .i64 0), 1, 8) := by kernel_rfl
set_option maxHeartbeats 800000 in
theorem toI_some (b off n cap : Nat) (f : Nat → Int) (w : World) (hn : n ≤ 1000000000000) (hc : ∀ i, i < n → w.cell? ⟨b, off + i, none⟩ = some (.int .i64 (f i))) :
    Calls Try.prog 31 #[.slice (some ⟨b, off, none⟩) n cap] w fun e w' => e = .returned (.slice (some ⟨w.heap.size, 0, none⟩) n n) ∧
      Seg w' w.heap.size 2 0 n (fun i => .int .i64 (f i)) ∧ Below w.heap.size w w' ∧ w'.heap.size = w.heap.size + 1 := by
  have hmk := run_make_row' (P := Try.prog) 26 2 (.int .i64 0) 8 Try.underlying26 info2 rfl .i64 .i64 n (by omega) (by omega)
  go_enter Try.func31, Try.ntmps31
  go_wp2_with fail
  clear hmk
  go_loopw [4] (fun i wr => ∃ k : Nat, k ≤ n ∧ i = .int .i64 k ∧ Seg wr w.heap.size 2 0 n (fun j => if j < k then .int .i64 (f j) else .int .i64 0) ∧ Below w.heap.size w wr ∧ wr.heap.size = w.heap.size + 1) (fun i _ => n - (intOf i).toNat)
  case atStart => exact ⟨0, Nat.zero_le _, rfl, (seg_made w _ n 2).congr (fun j _ => by simp), (Below.refl _ _).alloc (Nat.le_refl _) _, by simp⟩
  case round =>
    obtain ⟨k, hk, rfl, hs, hb, hz⟩ := hrel
    by_cases hkn : k < n
    · have g1 : wr.cell? ⟨b, off + k, none⟩ = some (.int .i64 (f k)) := (hb.cell (World.block_lt_of_cell? _ _ (hc k hkn))).trans (hc k hkn)
      have g2 : wr.cell? ⟨w.heap.size, k, none⟩ = some (.int .i64 0) := by simpa using hs.cell hkn
      have g3 : wr.frozen? ⟨w.heap.size, k, none⟩ = false := hs.frozen k
      have HS : Hid (Seg wr w.heap.size 2 0 n (fun j => if j < k then .int .i64 (f j) else .int .i64 0) ∧ Below w.heap.size w wr ∧ wr.heap.size = w.heap.size + 1) := ⟨hs, hb, hz⟩
      clear hs hb hz hc
      go_wp2
      go_roundw
      case rel =>
        obtain ⟨hs, hb, hz⟩ := HS.out
        refine ⟨k + 1, by omega, by simp, ?_, hb.setCell (Nat.le_refl _) _, by simpa using hz⟩
        have := hs.set k hkn (.int .i64 (f k))
        rw [Nat.zero_add] at this
        refine this.congr fun j hj => ?_
        by_cases e : j = k
        · subst e; simp
        · by_cases e2 : j < k
          · simp [e, e2, Nat.lt_succ_of_lt e2]
          · simp [e, e2]; intro h; omega
      case measure => simp [intOf]; omega
    · obtain rfl : k = n := by omega
      clear hc
      go_wp2
      go_ret
      exact ⟨rfl, hs.congr fun j hj => by simp [hj], hb, hz⟩
theorem toI_none (ao : Option Addr) (cap : Nat) (f : Nat → Int) (w : World) :
    Calls Try.prog 31 #[.slice ao 0 cap] w fun e w' => e = .returned (.slice (some ⟨w.heap.size, 0, none⟩) 0 0) ∧
      Seg w' w.heap.size 2 0 0 (fun i => .int .i64 (f i)) ∧ Below w.heap.size w w' ∧ w'.heap.size = w.heap.size + 1 := by
  have hmk := run_make_row' (P := Try.prog) 26 2 (.int .i64 0) 8 Try.underlying26 info2 rfl .i64 .i64 0 (by omega) (by omega)
  rw [show ((0 : Nat) : Int) = 0 from rfl] at hmk
  have hS := seg_made w (.int .i64 0) 0 2
  have hB : Below w.heap.size w (w.alloc (.cells (madeCells #[.int .i64 0] 0) 2)) := (Below.refl _ _).alloc (Nat.le_refl _) _
  go_enter Try.func31, Try.ntmps31
  go_wp2_with fail
  refine wp_loop_rounds 1 ?_
  rw [rounds_succ]
  go_wp2
  go_ret
  exact ⟨rfl, hS.congr fun j hj => absurd hj (Nat.not_lt_zero _), hB, by simp⟩
theorem toI_any {w : World} {v : Value} {n : Nat} {f : Nat → Int} (h : RdRow w v n f) (hn : n ≤ 1000000000000) :
    Calls Try.prog 31 #[v] w fun e w' => e = .returned (.slice (some ⟨w.heap.size, 0, none⟩) n n) ∧
      Seg w' w.heap.size 2 0 n (fun i => .int .i64 (f i)) ∧ Below w.heap.size w w' ∧ w'.heap.size = w.heap.size + 1 := by
  rcases h with ⟨ao, cap, rfl, rfl⟩ | ⟨b, off, cap, rfl, hc⟩
  · exact toI_none ao cap f w
  · exact toI_some b off n cap f w hn hc

theorem RdRow.drewN {w : World} {v : Value} {n : Nat} {f : Nat → Int} (h : RdRow w v n f) (q : Nat) : RdRow (w.drewN q) v n f := by
  rcases h with h | ⟨b, off, cap, rfl, h⟩
  · exact Or.inl h
  · exact Or.inr ⟨b, off, cap, rfl, fun i hi => by rw [World.cell?_drewN]; exact h i hi⟩
set_option maxHeartbeats 800000 in
theorem eqI_some (b off cap b' off' cap' n : Nat) (f : Nat → Int) (w : World) (hn : n ≤ 1000000000000)
    (hc : ∀ i, i < n → w.cell? ⟨b, off + i, none⟩ = some (.int .i64 (f i))) (hc' : ∀ i, i < n → w.cell? ⟨b', off' + i, none⟩ = some (.int .i64 (f i))) :
    Calls Try.prog 33 #[.slice (some ⟨b, off, none⟩) n cap, .slice (some ⟨b', off', none⟩) n cap'] w fun e w' => e = .returned (.bool true) ∧ ∃ q, w' = w.drewN q := by
  go_enter Try.func33, Try.ntmps33
  go_wp2_with fail
  go_loopw [5] (fun i wr => ∃ k q : Nat, k ≤ n ∧ i = .int .i64 k ∧ wr = w.drewN q) (fun i _ => n - (intOf i).toNat)
  case atStart => exact ⟨0, 0, Nat.zero_le _, rfl, rfl⟩
  case round =>
    obtain ⟨k, q, hk, rfl, rfl⟩ := hrel
    by_cases hkn : k < n
    · have g1 := hc k hkn
      have g2 := hc' k hkn
      clear hc hc'
      go_wp2
      go_quiet (fail)
      go_wp2
      go_roundw
      case rel => exact ⟨k + 1, q + nq, by omega, by simp, by first | rfl | rw [World.drewN_drewN]⟩
      case measure => simp [intOf]; omega
    · obtain rfl : k = n := by omega
      clear hc hc'
      go_wp2
      go_ret
      exact ⟨rfl, q, rfl⟩
theorem eqI_none (ao ao' : Option Addr) (cap cap' : Nat) (w : World) :
    Calls Try.prog 33 #[.slice ao 0 cap, .slice ao' 0 cap'] w fun e w' => e = .returned (.bool true) ∧ ∃ q, w' = w.drewN q := by
  go_enter Try.func33, Try.ntmps33
  go_wp2_with fail
  refine wp_loop_rounds 1 ?_
  rw [rounds_succ]
  go_wp2
  go_ret
  exact ⟨rfl, 0, rfl⟩
theorem eqI_any {w : World} {v v' : Value} {n : Nat} {f : Nat → Int} (h : RdRow w v n f) (h' : RdRow w v' n f) (hn : n ≤ 1000000000000) :
    Calls Try.prog 33 #[v, v'] w fun e w' => e = .returned (.bool true) ∧ ∃ q, w' = w.drewN q := by
  rcases h with ⟨ao, cap, rfl, rfl⟩ | ⟨b, off, cap, rfl, hc⟩
  · rcases h' with ⟨ao', cap', rfl, _⟩ | ⟨b', off', cap', rfl, hc'⟩
    · exact eqI_none _ _ _ _ w
    · exact eqI_none _ _ _ _ w
  · rcases h' with ⟨ao', cap', rfl, rfl⟩ | ⟨b', off', cap', rfl, hc'⟩
    · exact eqI_none _ _ _ _ w
    · exact eqI_some b off cap b' off' cap' n f w hn hc hc'
set_option maxHeartbeats 800000 in
theorem markI_some (b off n cap : Nat) (f : Nat → Int) (k0 : Int) (w : World) (h0 : 0 ≤ k0) (h1 : k0 + n ≤ 1000000000000) (hs0 : Seg w b 2 off n (fun i => .int .i64 (f i))) :
    Calls Try.prog 34 #[.slice (some ⟨b, off, none⟩) n cap, .int .i64 k0] w fun e w' => e = .returned (.int .i64 (k0 + n)) ∧
      Seg w' b 2 off n (fun i => .int .i64 (k0 + i)) ∧ Within b (b + 1) w w' ∧ w'.heap.size = w.heap.size := by
  go_enter Try.func34, Try.ntmps34
  go_wp2_with fail
  go_loopw [1, 5] (fun q i wr => ∃ k : Nat, k ≤ n ∧ i = .int .i64 k ∧ q = .int .i64 (k0 + k) ∧ Seg wr b 2 off n (fun j => if j < k then .int .i64 (k0 + j) else .int .i64 (f j)) ∧ Within b (b + 1) w wr ∧ wr.heap.size = w.heap.size) (fun _ i _ => n - (intOf i).toNat)
  case atStart => exact ⟨0, Nat.zero_le _, rfl, by simp, hs0.congr (fun j _ => by simp), Within.refl _ _ _, rfl⟩
  case round =>
    obtain ⟨k, hk, rfl, rfl, hs, hb, hz⟩ := hrel
    clear hs0
    by_cases hkn : k < n
    · have g2 : wr.cell? ⟨b, off + k, none⟩ = some (.int .i64 (f k)) := by simpa using hs.cell hkn
      have g3 : wr.frozen? ⟨b, off + k, none⟩ = false := hs.frozen (off + k)
      have HS : Hid (Seg wr b 2 off n (fun j => if j < k then .int .i64 (k0 + j) else .int .i64 (f j)) ∧ Within b (b + 1) w wr ∧ wr.heap.size = w.heap.size) := ⟨hs, hb, hz⟩
      clear hs hb hz
      go_wp2
      go_roundw
      case rel =>
        obtain ⟨hs, hb, hz⟩ := HS.out
        refine ⟨k + 1, by omega, by simp, by simp; omega, ?_, hb.setCell (Nat.le_refl _) (Nat.lt_succ_self _) _, by simpa using hz⟩
        refine (hs.set k hkn (.int .i64 (k0 + k))).congr fun j hj => ?_
        by_cases e : j = k
        · subst e; simp
        · by_cases e2 : j < k
          · simp [e, e2, Nat.lt_succ_of_lt e2]
          · simp [e, e2]; intro h; omega
      case measure => simp [intOf]; omega
    · obtain rfl : k = n := by omega
      go_wp2
      go_ret
      exact ⟨rfl, hs.congr fun j hj => by simp [hj], hb, hz⟩
theorem markI_none (ao : Option Addr) (cap : Nat) (k0 : Int) (w : World) : Calls Try.prog 34 #[.slice ao 0 cap, .int .i64 k0] w fun e w' => e = .returned (.int .i64 k0) ∧ w = w' := by
  go_enter Try.func34, Try.ntmps34
  go_wp2_with fail
  refine wp_loop_rounds 1 ?_
  rw [rounds_succ]
  go_wp2
  go_ret
  exact ⟨rfl, rfl⟩
set_option maxHeartbeats 800000 in
theorem heldI_some (b off n cap : Nat) (k0 : Int) (w : World) (h0 : 0 ≤ k0) (h1 : k0 + n ≤ 1000000000000) (hc : ∀ i : Nat, i < n → w.cell? ⟨b, off + i, none⟩ = some (.int .i64 (k0 + i))) :
    Calls Try.prog 39 #[.slice (some ⟨b, off, none⟩) n cap, .int .i64 k0] w fun e w' => e = .returned (.int .i64 (k0 + n)) ∧ w = w' := by
  go_enter Try.func39, Try.ntmps39
  go_wp2_with fail
  go_loopw [1, 5] (fun q i wr => wr = w ∧ ∃ k : Nat, k ≤ n ∧ i = .int .i64 k ∧ q = .int .i64 (k0 + k)) (fun _ i _ => n - (intOf i).toNat)
  case atStart => exact ⟨rfl, 0, Nat.zero_le _, rfl, by simp⟩
  case round =>
    obtain ⟨rfl, k, hk, rfl, rfl⟩ := hrel
    by_cases hkn : k < n
    · have g := hc k hkn
      clear hc
      go_wp2
      go_roundw
      case rel => exact ⟨by trivial, k + 1, by omega, by simp, by simp; omega⟩
      case measure => simp [intOf]; omega
    · obtain rfl : k = n := by omega
      clear hc
      go_wp2
      go_ret
      exact ⟨rfl, rfl⟩
theorem heldI_none (ao : Option Addr) (cap : Nat) (k0 : Int) (w : World) : Calls Try.prog 39 #[.slice ao 0 cap, .int .i64 k0] w fun e w' => e = .returned (.int .i64 k0) ∧ w = w' := by
  go_enter Try.func39, Try.ntmps39
  go_wp2_with fail
  refine wp_loop_rounds 1 ?_
  rw [rounds_succ]
  go_wp2
  go_ret
  exact ⟨rfl, rfl⟩
theorem OwS.rdI {t : TypeId} {lo hi : Nat} {w : World} {v : Value} {n : Nat} {f : Nat → Int} (h : OwS t lo hi w v n (fun i => .int .i64 (f i))) : RdRow w v n f := by
  rcases h with ⟨rfl, rfl⟩ | ⟨g, cap, rfl, _, _, h⟩
  · exact Or.inl ⟨none, 0, rfl, rfl⟩
  · exact h.rdI
theorem markI_own {lo hi : Nat} {w : World} {v : Value} {n : Nat} {f : Nat → Int} (h : OwS 2 lo hi w v n (fun i => .int .i64 (f i))) (k0 : Int) (h0 : 0 ≤ k0) (h1 : k0 + n ≤ 1000000000000) :
    Calls Try.prog 34 #[v, .int .i64 k0] w fun e w' => e = .returned (.int .i64 (k0 + n)) ∧ OwS 2 lo hi w' v n (fun i => .int .i64 (k0 + i)) ∧ Within lo hi w w' ∧ w'.heap.size = w.heap.size := by
  rcases h with ⟨rfl, rfl⟩ | ⟨g, cap, rfl, h2, h3, h4⟩
  · refine (markI_none none 0 k0 w).mono ?_
    rintro e w' ⟨rfl, rfl⟩
    exact ⟨by simp, Or.inl ⟨rfl, rfl⟩, Within.refl _ _ _, rfl⟩
  · refine (markI_some g 0 n cap f k0 w h0 h1 h4).mono ?_
    rintro e w' ⟨rfl, a, b, c⟩
    exact ⟨rfl, Or.inr ⟨g, cap, rfl, h2, h3, a⟩, b.mono h2 (by omega), c⟩
theorem heldI_own {lo hi : Nat} {w : World} {v : Value} {n : Nat} {k0 : Int} (h : OwS 2 lo hi w v n (fun i => .int .i64 (k0 + i))) (h0 : 0 ≤ k0) (h1 : k0 + n ≤ 1000000000000) :
    Calls Try.prog 39 #[v, .int .i64 k0] w fun e w' => e = .returned (.int .i64 (k0 + n)) ∧ w = w' := by
  rcases h with ⟨rfl, rfl⟩ | ⟨g, cap, rfl, h2, h3, h4⟩
  · refine (heldI_none none 0 k0 w).mono ?_
    rintro e w' ⟨rfl, rfl⟩
    exact ⟨by simp, rfl⟩
  · exact heldI_some g 0 n cap k0 w h0 h1 fun i hi => by have := h4.cell hi; simpa using this
/-! ### answers of books of flux -/
abbrev Fx (c : Int) (v : Value) (l : Int) : Value := .agg #[.int .i64 c, v, .int .i64 l]
set_option maxRecDepth 20000 in
theorem eqFlux_same {w : World} {v v' : Value} {n : Nat} {f : Nat → Int} {c l : Int} (h : RdRow w v n f) (h' : RdRow w v' n f) (hn : n ≤ 1000000000000) :
    Calls Try.prog 43 #[Fx c v l, Fx c v' l] w fun e w' => e = .returned (.bool true) ∧ Below w.heap.size w w' := by
  have HR : Hid (∀ W, Below w.heap.size w W → Calls Try.prog 33 #[v, v'] W fun e w' => e = .returned (.bool true) ∧ Below W.heap.size W w') := fun W b => (eqI_any (h.later b) (h'.later b) hn).mono fun _ _ h => drew_below h
  clear h h'
  obtain ⟨w2, hw2⟩ : ∃ W, W = (w.alloc (.cells #[.int .i64 c, v, .int .i64 l] 28)).alloc (.cells #[.int .i64 c, v', .int .i64 l] 28) := ⟨_, rfl⟩
  have B : Hid (Below w.heap.size w w2) := by show Below _ _ _; rw [hw2]; exact ((Below.refl _ _).alloc (Nat.le_refl _) _).alloc (by simp) _
  have c0 : Hid (Blk w2 w.heap.size #[.int .i64 c, v, .int .i64 l] 28) := by show Blk _ _ _ _; rw [hw2]; exact (Blk.new rfl).alloc _
  have c1 : Hid (Blk w2 (w.heap.size + 1) #[.int .i64 c, v', .int .i64 l] 28) := by show Blk _ _ _ _; rw [hw2]; exact Blk.new (by simp)
  go_enter Try.func43, Try.ntmps43
  go_wp2_with fail
  rw [← hw2]
  refine (HR.out _ B.out).mono ?_
  rintro e w3 ⟨rfl, b⟩
  have d0 := (c0.out.old b).cell (j := 2) (v := .int .i64 l) rfl
  have d1 := (c1.out.old b).cell (j := 2) (v := .int .i64 l) rfl
  have HB : Hid (Below w.heap.size w w3) := B.out.trans (b.mono B.out.size)
  clear hw2 B c0 c1 b HR
  go_wp2
  go_ret
  exact ⟨rfl, HB.out⟩
set_option maxRecDepth 20000 in
theorem markFlux_own {lo hi : Nat} {w : World} {v : Value} {n : Nat} {f : Nat → Int} {c l : Int} (h : OwS 2 lo hi w v n (fun i => .int .i64 (f i))) (hl : lo ≤ w.heap.size) (k0 : Int) (h0 : 0 ≤ k0) (h1 : k0 + n ≤ 1000000000000) :
    Calls Try.prog 44 #[Fx c v l, .int .i64 k0] w fun e w' => e = .returned (.int .i64 (k0 + n)) ∧ OwS 2 lo hi w' v n (fun i => .int .i64 (k0 + i)) ∧ Within lo hi w w' ∧ w.heap.size ≤ w'.heap.size := by
  obtain ⟨w2, hw2⟩ : ∃ W, W = w.alloc (.cells #[.int .i64 c, v, .int .i64 l] 28) := ⟨_, rfl⟩
  have hb : Below w.heap.size w w2 := by rw [hw2]; exact (Below.refl _ _).alloc (Nat.le_refl _) _
  have W0 : Within lo hi w w2 := (Within.refl lo hi w).later hb hl
  have HM : Hid (Calls Try.prog 34 #[v, .int .i64 k0] w2 fun e w' => e = .returned (.int .i64 (k0 + n)) ∧ (OwS 2 lo hi w' v n (fun i => .int .i64 (k0 + i)) ∧ Within lo hi w w' ∧ w.heap.size ≤ w'.heap.size)) := by
    refine (markI_own (h.later hb) k0 h0 h1).mono ?_
    rintro e w' ⟨rfl, a, b, z⟩
    exact ⟨rfl, a, W0.trans b, by have := hb.size; omega⟩
  clear h hb W0
  go_enter Try.func44, Try.ntmps44
  go_wp2_with fail
  rw [← hw2]
  refine HM.out.mono ?_
  rintro e w3 ⟨rfl, h9⟩
  replace h9 : Hid _ := h9
  go_wp2
  go_ret
  exact ⟨rfl, h9.out⟩
theorem heldFlux_own {lo hi : Nat} {w : World} {v : Value} {n : Nat} {c l : Int} {k0 : Int} (h : OwS 2 lo hi w v n (fun i => .int .i64 (k0 + i))) (h0 : 0 ≤ k0) (h1 : k0 + n ≤ 1000000000000) :
    Calls Try.prog 45 #[Fx c v l, .int .i64 k0] w fun e w' => e = .returned (.int .i64 (k0 + n)) ∧ Below w.heap.size w w' := by
  obtain ⟨w2, hw2⟩ : ∃ W, W = w.alloc (.cells #[.int .i64 c, v, .int .i64 l] 28) := ⟨_, rfl⟩
  have hb : Below w.heap.size w w2 := by rw [hw2]; exact (Below.refl _ _).alloc (Nat.le_refl _) _
  obtain ⟨M, hM⟩ : ∃ M : Int, M = k0 + n := ⟨_, rfl⟩
  have hM0 : ¬ M < 0 := by omega
  have HM : Hid (Calls Try.prog 39 #[v, .int .i64 k0] w2 fun e w' => e = .returned (.int .i64 M) ∧ w2 = w') := by
    rw [hM]
    exact heldI_own (h.later hb) h0 h1
  rw [← hM]
  have HB : Hid (Below w.heap.size w w2) := hb
  clear h hb hM h0 h1
  go_enter Try.func45, Try.ntmps45
  go_wp2_with fail
  rw [← hw2]
  clear hw2
  refine HM.out.mono ?_
  rintro e w3 ⟨rfl, rfl⟩
  go_wp2
  go_ret
  exact ⟨rfl, HB.out⟩
/-- What is answered: a code, a list of numbers in memory of its own, a number. -/
def FX (fn : FuncId) (args : Array Value) (w : World) (c : Int) (n : Nat) (F : Nat → Int) (l : Int) : Prop :=
  Calls Try.prog fn args w fun e w' => ∃ v, e = .returned (Fx c v l) ∧ OwS 2 w.heap.size w'.heap.size w' v n (fun i => .int .i64 (F i)) ∧ Below w.heap.size w w'
end Go.Proofs.Ytgidoceflkdklaa
