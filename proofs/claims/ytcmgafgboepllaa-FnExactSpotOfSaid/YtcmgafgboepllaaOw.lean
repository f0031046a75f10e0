/- Lists that a call owns: where they lie; marks in lists of floats. Plain laws on worlds, and the laws' own helpers over lists of floats. -/
import Derived.Test.YtcmgafgboepllaaSums
import Derived.Test.YtcmgafgboepllaaRw
namespace Go.Proofs.Ytcmgafgboepllaa
open Go.RowKit Fl
set_option linter.unusedVariables false
/-- v is nil, or a list of n values F in a block from lo on, below hi. -/
def OwS (t : TypeId) (lo hi : Nat) (w : World) (v : Value) (n : Nat) (F : Nat → Value) : Prop :=
  (v = .slice none 0 0 ∧ n = 0) ∨ ∃ g cap, v = .slice (some ⟨g, 0, none⟩) n cap ∧ lo ≤ g ∧ g < hi ∧ Seg w g t 0 n F
namespace OwS
variable {t : TypeId} {lo hi : Nat} {w w' : World} {v : Value} {n : Nat} {F G : Nat → Value}
theorem later (h : OwS t lo hi w v n F) (b : Below w.heap.size w w') : OwS t lo hi w' v n F := by
  rcases h with h | ⟨g, cap, rfl, h1, h2, h3⟩
  · exact Or.inl h
  · exact Or.inr ⟨g, cap, rfl, h1, h2, h3.below b⟩
theorem under (h : OwS t lo hi w v n F) {a c : Nat} (b : Within a c w w') (hh : hi ≤ a ∨ c ≤ lo) : OwS t lo hi w' v n F := by
  rcases h with h | ⟨g, cap, rfl, h1, h2, h3⟩
  · exact Or.inl h
  · refine Or.inr ⟨g, cap, rfl, h1, h2, h3.of_block ?_⟩
    rcases hh with hh | hh
    · exact b.below.block g (by omega)
    · exact b.above g (by omega) h3.lt
theorem congr (h : OwS t lo hi w v n F) (e : ∀ i, i < n → F i = G i) : OwS t lo hi w v n G := by
  rcases h with h | ⟨g, cap, rfl, h1, h2, h3⟩
  · exact Or.inl h
  · exact Or.inr ⟨g, cap, rfl, h1, h2, h3.congr e⟩
theorem form (h : OwS t lo hi w v n F) : ∃ ao cap, v = .slice ao n cap := by
  rcases h with ⟨rfl, rfl⟩ | ⟨g, cap, rfl, _⟩
  · exact ⟨none, 0, rfl⟩
  · exact ⟨_, cap, rfl⟩
end OwS
theorem OwS.rd {t : TypeId} {lo hi : Nat} {w : World} {v : Value} {n : Nat} {f : Nat → Nat} (h : OwS t lo hi w v n (fun i => .float .f64 (f i))) : RdF w v n f := by
  rcases h with ⟨rfl, rfl⟩ | ⟨g, cap, rfl, _, _, h⟩
  · exact Or.inl ⟨none, 0, rfl, rfl⟩
  · exact h.rd
theorem Within.later {lo hi : Nat} {a w w' : World} (h : Within lo hi a w) (b : Below w.heap.size w w') (hl : lo ≤ w.heap.size) : Within lo hi a w' :=
  ⟨h.below.trans (b.mono hl), fun k h1 h2 => (b.block k (Nat.lt_of_lt_of_le h2 h.below.size)).trans (h.above k h1 h2)⟩
theorem Blk.under {w w' : World} {b : Nat} {cs : Array Value} {t : TypeId} (h : Blk w b cs t) {a c : Nat} (k : Within a c w w') (hh : b < a ∨ c ≤ b) : Blk w' b cs t := by
  rcases hh with hh | hh
  · exact (k.below.block b hh).trans h
  · exact (k.above b hh h.lt).trans h
theorem Blk.later {w w' : World} {b : Nat} {cs : Array Value} {t : TypeId} (h : Blk w b cs t) (k : Below w.heap.size w w') : Blk w' b cs t := h.old k
/-- Cells read off a list that append has built. -/
theorem owned_seg {w : World} {base n : Nat} {t : TypeId} {v : Value} {xs : List Value} {F : Nat → Value} (h : w.ownsRow base t 1 v n xs) (hF : ∀ i, i < n → xs[i]? = some (F i)) : OwS t base w.heap.size w v n F := by
  obtain ⟨hl, h | ⟨g, cap, cur, hv, hg, hh, h1, h2, h3, h4⟩⟩ := h
  · exact Or.inl h
  · refine Or.inr ⟨g, cap, hv, hg, (Array.getElem?_eq_some_iff.1 hh).1, cur, hh, fun i hi => ?_⟩
    rw [← hF i hi, ← h4, Nat.zero_add, Nat.mul_one, List.getElem?_take_of_lt hi, ← Array.getElem?_toList]
/-! ### marks in lists of floats -/
abbrev mk (k : Int) : Nat := floatOfInt .f64 k
theorem mk_lt (k : Int) : mk k < 18446744073709551616 := by
  unfold mk
  simpa [Lit.wf] using floatOfInt_wf .f64 k
theorem mk_self {k : Int} (h0 : 0 ≤ k) (h1 : k ≤ 1000000000000) : FloatKind.f64.format.order (mk k) (mk k) = some .eq := by
  obtain ⟨n, rfl⟩ := Int.eq_ofNat_of_zero_le h0
  rw [mk, floatOfInt_F]
  obtain ⟨r, r1, r2, _⟩ := rep_word (rep_int (m := n) (by omega)) false
  refine order_self' (Ieee.double.nearest_lt false n 0) ?_
  rw [r2, dW_false]
  unfold Num
  omega
set_option maxHeartbeats 800000 in
theorem markF_any (b n cap : Nat) (z : Nat → Nat) (k0 : Int) (w : World) (h0 : 0 ≤ k0) (h1 : k0 + n ≤ 1000000000000) (hs0 : Seg w b 24 0 n (fun i => .float .f64 (z i))) :
    Calls Try.prog 25 #[.slice (some ⟨b, 0, none⟩) n cap, .int .i64 k0] w fun e w' => e = .returned (.int .i64 (k0 + n)) ∧
      Seg w' b 24 0 n (fun i => .float .f64 (mk (k0 + i))) ∧ Within b (b + 1) w w' ∧ w'.heap.size = w.heap.size := by
  have hst := st64
  go_enter Try.func25, Try.ntmps25
  go_wp2_with fail
  go_loopw [1, 5] (fun q i wr => ∃ k : Nat, k ≤ n ∧ i = .int .i64 k ∧ q = .int .i64 (k0 + k) ∧ Seg wr b 24 0 n (fun j => if j < k then .float .f64 (mk (k0 + j)) else .float .f64 (z j)) ∧ Within b (b + 1) w wr ∧ wr.heap.size = w.heap.size) (fun _ i _ => n - (intOf i).toNat)
  case atStart => exact ⟨0, Nat.zero_le _, rfl, by simp, hs0.congr (fun j _ => by simp), Within.refl _ _ _, rfl⟩
  case round =>
    obtain ⟨k, hk, rfl, rfl, hs, hb, hz⟩ := hrel
    clear hs0
    by_cases hkn : k < n
    · have g2 : wr.cell? ⟨b, k, none⟩ = some (.float .f64 (z k)) := by simpa using hs.cell hkn
      have g3 : wr.frozen? ⟨b, k, none⟩ = false := hs.frozen k
      have HS : Hid (Seg wr b 24 0 n (fun j => if j < k then .float .f64 (mk (k0 + j)) else .float .f64 (z j)) ∧ Within b (b + 1) w wr ∧ wr.heap.size = w.heap.size) := ⟨hs, hb, hz⟩
      clear hs hb hz
      go_wp2
      go_roundw
      case rel =>
        obtain ⟨hs, hb, hz⟩ := HS.out
        refine ⟨k + 1, by omega, by simp, by simp; omega, ?_, hb.setCell (Nat.le_refl _) (Nat.lt_succ_self _) _, by simpa using hz⟩
        have := hs.set k hkn (.float .f64 (mk (k0 + k)))
        rw [Nat.zero_add] at this
        refine this.congr fun j hj => ?_
        by_cases e : j = k
        · subst e; simp
        · by_cases e2 : j < k
          · simp [e, e2, Nat.lt_succ_of_lt e2]
          · simp [e, e2]; intro h; omega
      case measure => simp [intOf]; omega
    · obtain rfl : k = n := by omega
      go_wp2
      go_ret
      exact ⟨rfl, hs.congr fun j hj => by simp [hj], hb, hz⟩
set_option maxHeartbeats 800000 in
theorem heldF_any (b n cap : Nat) (k0 : Int) (w : World) (h0 : 0 ≤ k0) (h1 : k0 + n ≤ 1000000000000) (hc : ∀ i : Nat, i < n → w.cell? ⟨b, i, none⟩ = some (.float .f64 (mk (k0 + i)))) :
    Calls Try.prog 30 #[.slice (some ⟨b, 0, none⟩) n cap, .int .i64 k0] w fun e w' => e = .returned (.int .i64 (k0 + n)) ∧ w = w' := by
  go_enter Try.func30, Try.ntmps30
  go_wp2_with fail
  go_loopw [1, 5] (fun q i wr => wr = w ∧ ∃ k : Nat, k ≤ n ∧ i = .int .i64 k ∧ q = .int .i64 (k0 + k)) (fun _ i _ => n - (intOf i).toNat)
  case atStart => exact ⟨rfl, 0, Nat.zero_le _, rfl, by simp⟩
  case round =>
    obtain ⟨rfl, k, hk, rfl, rfl⟩ := hrel
    by_cases hkn : k < n
    · have g := hc k hkn
      have ho := mk_self (k := k0 + k) (by omega) (by omega)
      clear hc
      go_wp2
      go_roundw
      case rel => exact ⟨by trivial, k + 1, by omega, by simp, by simp; omega⟩
      case measure => simp [intOf]; omega
    · obtain rfl : k = n := by omega
      clear hc
      go_wp2
      go_ret
      exact ⟨rfl, rfl⟩
theorem markF_none (ao : Option Addr) (cap : Nat) (k0 : Int) (w : World) : Calls Try.prog 25 #[.slice ao 0 cap, .int .i64 k0] w fun e w' => e = .returned (.int .i64 k0) ∧ w = w' := by
  go_enter Try.func25, Try.ntmps25
  go_wp2_with fail
  refine wp_loop_rounds 1 ?_
  rw [rounds_succ]
  go_wp2
  go_ret
  exact ⟨rfl, rfl⟩
theorem heldF_none (ao : Option Addr) (cap : Nat) (k0 : Int) (w : World) : Calls Try.prog 30 #[.slice ao 0 cap, .int .i64 k0] w fun e w' => e = .returned (.int .i64 k0) ∧ w = w' := by
  go_enter Try.func30, Try.ntmps30
  go_wp2_with fail
  refine wp_loop_rounds 1 ?_
  rw [rounds_succ]
  go_wp2
  go_ret
  exact ⟨rfl, rfl⟩
theorem markF_own {lo hi : Nat} {w : World} {v : Value} {n : Nat} {f : Nat → Nat} (h : OwS 24 lo hi w v n (fun i => .float .f64 (f i))) (k0 : Int) (h0 : 0 ≤ k0) (h1 : k0 + n ≤ 1000000000000) :
    Calls Try.prog 25 #[v, .int .i64 k0] w fun e w' => e = .returned (.int .i64 (k0 + n)) ∧ OwS 24 lo hi w' v n (fun i => .float .f64 (mk (k0 + i))) ∧ Within lo hi w w' ∧ w'.heap.size = w.heap.size := by
  rcases h with ⟨rfl, rfl⟩ | ⟨g, cap, rfl, h2, h3, h4⟩
  · refine (markF_none none 0 k0 w).mono ?_
    rintro e w' ⟨rfl, rfl⟩
    exact ⟨by simp, Or.inl ⟨rfl, rfl⟩, Within.refl _ _ _, rfl⟩
  · refine (markF_any g n cap f k0 w h0 h1 h4).mono ?_
    rintro e w' ⟨rfl, a, b, c⟩
    exact ⟨rfl, Or.inr ⟨g, cap, rfl, h2, h3, a⟩, b.mono h2 (by omega), c⟩
theorem heldF_own {lo hi : Nat} {w : World} {v : Value} {n : Nat} {k0 : Int} (h : OwS 24 lo hi w v n (fun i => .float .f64 (mk (k0 + i)))) (h0 : 0 ≤ k0) (h1 : k0 + n ≤ 1000000000000) :
    Calls Try.prog 30 #[v, .int .i64 k0] w fun e w' => e = .returned (.int .i64 (k0 + n)) ∧ w = w' := by
  rcases h with ⟨rfl, rfl⟩ | ⟨g, cap, rfl, h2, h3, h4⟩
  · refine (heldF_none none 0 k0 w).mono ?_
    rintro e w' ⟨rfl, rfl⟩
    exact ⟨by simp, rfl⟩
  · exact heldF_any g n cap k0 w h0 h1 fun i hi => by have := h4.cell hi; simpa using this
theorem eqF_none (ao ao' : Option Addr) (cap cap' : Nat) (w : World) :
    Calls Try.prog 23 #[.slice ao 0 cap, .slice ao' 0 cap'] w fun e w' => e = .returned (.bool true) ∧ ∃ q, w' = w.drewN q := by
  go_enter Try.func23, Try.ntmps23
  go_wp2_with fail
  refine wp_loop_rounds 1 ?_
  rw [rounds_succ]
  go_wp2
  go_ret
  exact ⟨rfl, 0, rfl⟩
/-- Two lists of floats of the same classes. -/
theorem eqF_any {w : World} {v v' : Value} {n : Nat} {f g : Nat → Nat} {o : Nat → Option Nat} (h : RdF w v n f) (h' : RdF w v' n g) (hn : n ≤ 1000000000000) (hf : ∀ i, i < n → Fc (f i) (o i)) (hg : ∀ i, i < n → Fc (g i) (o i)) :
    Calls Try.prog 23 #[v, v'] w fun e w' => e = .returned (.bool true) ∧ ∃ q, w' = w.drewN q := by
  rcases h with ⟨ao, cap, rfl, rfl⟩ | ⟨b, off, cap, rfl, hc⟩
  · rcases h' with ⟨ao', cap', rfl, _⟩ | ⟨b', off', cap', rfl, hc'⟩
    · exact eqF_none _ _ _ _ w
    · exact eqF_none _ _ _ _ w
  · rcases h' with ⟨ao', cap', rfl, rfl⟩ | ⟨b', off', cap', rfl, hc'⟩
    · exact eqF_none _ _ _ _ w
    · exact eqF_some b off cap b' off' cap' n f g w hn hc hc' fun i hi => ⟨(hf i hi).lx, (hg i hi).lx, (hf i hi).c.trans (hg i hi).c.symm⟩
theorem drew_below {P : Prop} {w w' : World} (h : P ∧ ∃ q, w' = w.drewN q) : P ∧ Below w.heap.size w w' := by
  obtain ⟨h1, q, rfl⟩ := h
  exact ⟨h1, below_drewN (Below.refl _ _) q⟩
end Go.Proofs.Ytcmgafgboepllaa
