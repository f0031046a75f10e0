/- The unit roots that a turn takes: contract. -/
import Derived.Test.YtgidoceflkdklaaCi
namespace Go.Proofs.Ytgidoceflkdklaa
open Go.RowKit Fl
set_option linter.unusedVariables false
set_option linter.unusedSimpArgs false
theorem and_one (x : Int) : bits .and .i64 x 1 = x % 2 := by
  have e : (BitVec.ofInt 64 x &&& BitVec.ofInt 64 1).toNat = (x % 2).toNat := by
    rw [BitVec.toNat_and, BitVec.toNat_ofInt, BitVec.toNat_ofInt]
    rw [show ((1 : Int) % ((2 ^ 64 : Nat) : Int)).toNat = 1 by decide, Nat.and_one_is_mod]
    have : ((2 ^ 64 : Nat) : Int) = 18446744073709551616 := by decide
    rw [this]
    omega
  show IntKind.i64.wrap (((BitVec.ofInt 64 x &&& BitVec.ofInt 64 1).toNat : Nat) : Int) = x % 2
  rw [e, IntKind.wrap_i64]
  omega
def onT (t : Int) (k : Nat) : Nat → Bool := fun i => if i < k then dig t i else true
theorem rts_on {c : Array Value} {f g : Nat → Bool} (h : Rts c f) (e : ∀ i, i < 20 → f i = g i) : Rts c g :=
  ⟨h.size, fun i hi j hj => by rw [h.cell i hi j hj]; unfold tabF; rw [e i hi]⟩
theorem rts_block {B : Nat} {X W : World} {b : Nat} {c : Array Value} {on : Nat → Bool} (o : Own B X b 40 103 W) (hr : W.rangeAt b 0 c.toList) (hc : Rts c on) : ∃ c', W.heap[b]? = some (.cells c' 103 (0, 0)) ∧ Rts c' on := by
  obtain ⟨c', hb', hs'⟩ := o.block
  obtain ⟨c2, h2, h3⟩ := seg_of_range o hr hc
  rw [hb'] at h2
  simp only [Option.some.injEq, Obj.cells.injEq] at h2
  obtain ⟨rfl, _⟩ := h2
  exact ⟨c', hb', hs', h3⟩
set_option maxHeartbeats 6400000 in
theorem taken_any (t : Int) (w : World) : Calls Try.prog 88 #[.int .i64 t] w fun e w' => ∃ c, e = .returned (.agg c) ∧ Rts c (dig t) ∧ Below w.heap.size w w' := by
  have hst := st64
  have h0 : Own w.heap.size w w.heap.size 40 103 (w.alloc (.cells #[.float .f64 0, .float .f64 0, .float .f64 0, .float .f64 0, .float .f64 0, .float .f64 0, .float .f64 0, .float .f64 0, .float .f64 0, .float .f64 0, .float .f64 0, .float .f64 0, .float .f64 0, .float .f64 0, .float .f64 0, .float .f64 0, .float .f64 0, .float .f64 0, .float .f64 0, .float .f64 0, .float .f64 0, .float .f64 0, .float .f64 0, .float .f64 0, .float .f64 0, .float .f64 0, .float .f64 0, .float .f64 0, .float .f64 0, .float .f64 0, .float .f64 0, .float .f64 0, .float .f64 0, .float .f64 0, .float .f64 0, .float .f64 0, .float .f64 0, .float .f64 0, .float .f64 0, .float .f64 0] 103)) := by
    have := own_made (X := w) (B := w.heap.size) (t := 103) #[.float .f64 0, .float .f64 0, .float .f64 0, .float .f64 0, .float .f64 0, .float .f64 0, .float .f64 0, .float .f64 0, .float .f64 0, .float .f64 0, .float .f64 0, .float .f64 0, .float .f64 0, .float .f64 0, .float .f64 0, .float .f64 0, .float .f64 0, .float .f64 0, .float .f64 0, .float .f64 0, .float .f64 0, .float .f64 0, .float .f64 0, .float .f64 0, .float .f64 0, .float .f64 0, .float .f64 0, .float .f64 0, .float .f64 0, .float .f64 0, .float .f64 0, .float .f64 0, .float .f64 0, .float .f64 0, .float .f64 0, .float .f64 0, .float .f64 0, .float .f64 0, .float .f64 0, .float .f64 0] (Nat.le_refl _)
    exact this
  go_enter Try.func88, Try.ntmps88
  go_wp2_with fail
  refine (circ_any _).mono ?_
  rintro e w1 ⟨c, rfl, hc, hb1⟩
  have h1 := h0.call hb1
  clear h0 hb1
  obtain ⟨K, hK⟩ : ∃ K, K = w1.heap.size := ⟨_, rfl⟩
  have hKr : w.heap.size < K := by rw [hK]; exact h1.lt
  have hT0 : Two w.heap.size w w.heap.size K 40 103 (w1.alloc (.cells #[.float .f64 0, .float .f64 0, .float .f64 0, .float .f64 0, .float .f64 0, .float .f64 0, .float .f64 0, .float .f64 0, .float .f64 0, .float .f64 0, .float .f64 0, .float .f64 0, .float .f64 0, .float .f64 0, .float .f64 0, .float .f64 0, .float .f64 0, .float .f64 0, .float .f64 0, .float .f64 0, .float .f64 0, .float .f64 0, .float .f64 0, .float .f64 0, .float .f64 0, .float .f64 0, .float .f64 0, .float .f64 0, .float .f64 0, .float .f64 0, .float .f64 0, .float .f64 0, .float .f64 0, .float .f64 0, .float .f64 0, .float .f64 0, .float .f64 0, .float .f64 0, .float .f64 0, .float .f64 0] 103)) := by
    have h2 := own_made (X := w1) (B := w.heap.size) (t := 103) #[.float .f64 0, .float .f64 0, .float .f64 0, .float .f64 0, .float .f64 0, .float .f64 0, .float .f64 0, .float .f64 0, .float .f64 0, .float .f64 0, .float .f64 0, .float .f64 0, .float .f64 0, .float .f64 0, .float .f64 0, .float .f64 0, .float .f64 0, .float .f64 0, .float .f64 0, .float .f64 0, .float .f64 0, .float .f64 0, .float .f64 0, .float .f64 0, .float .f64 0, .float .f64 0, .float .f64 0, .float .f64 0, .float .f64 0, .float .f64 0, .float .f64 0, .float .f64 0, .float .f64 0, .float .f64 0, .float .f64 0, .float .f64 0, .float .f64 0, .float .f64 0, .float .f64 0, .float .f64 0] (Nat.le_of_lt h1.lt)
    refine ⟨h1.alloc _, ⟨h1.below.trans h2.below, by omega, ?_⟩, by omega⟩
    rw [hK]
    exact h2.block
  have hth := own_there hT0.b
  rw [← hc.size] at hth
  have hsz : (Try.prog.info? 103).map (·.size) = some c.size := by rw [hc.size]; exact info74
  have hone := rts_one hc
  have HK : Hid (K = w1.heap.size) := hK
  clear h1
  subst hK
  clear HK
  go_wp2_with (first | (refine wpList_store_mid rfl 103 _ _ rfl w1.heap.size 0 c rfl rfl hth hsz hone ?_))
  go_loopw [6] (fun i wr => ∃ k : Nat, k ≤ 20 ∧ i = .int .i64 k ∧ Two w.heap.size w w.heap.size w1.heap.size 40 103 wr ∧ SegM wr w1.heap.size 103 20 2 (tabF (onT t k))) (fun i _ => 20 - (intOf i).toNat)
  case atStart =>
    have h1 := two_setCells hT0 0 c.toList
    exact ⟨0, by omega, rfl, h1, seg_of_range h1.b (World.rangeAt_setCells_same _ _ _ _ (by rw [Array.length_toList]; exact hth)) (rts_on hc (fun i hi => by simp [onT, upto, hi]))⟩
  case round =>
    obtain ⟨k, hk, rfl, ht, sg⟩ := hrel
    clear hT0 hth hsz hone hc
    by_cases hkn : k < 20
    · have hB := and_one (t / 2 ^ (19 - k))
      have hs0 : 0 ≤ 19 - (k : Int) := by omega
      have hs1 : 19 - (k : Int) ≤ 64 := by omega
      have hs2 : (19 - (k : Int)).toNat = 19 - k := by omega
      by_cases hd : t / 2 ^ (19 - k) % 2 = 1
      · rw [hd] at hB
        have hdg : dig t k = true := decide_eq_true hd
        have HS : Hid (Two w.heap.size w w.heap.size w1.heap.size 40 103 wr ∧ SegM wr w1.heap.size 103 20 2 (tabF (onT t k))) := ⟨ht, sg⟩
        clear ht sg hd
        go_wp2
        go_roundw
        case rel =>
          obtain ⟨ht, sg⟩ := HS.out
          refine ⟨k + 1, by omega, by simp, ht, sg.congr fun i hi j hj => ?_⟩
          unfold tabF onT
          by_cases e : i = k
          · subst e; simp [hdg]
          · by_cases e2 : i < k
            · simp [e2, show i < k + 1 by omega]
            · simp [e2, show ¬ i < k + 1 by omega]
        case measure => simp [intOf]; omega
      · have hd0 : t / 2 ^ (19 - k) % 2 = 0 := by omega
        rw [hd0] at hB
        have hdg : dig t k = false := decide_eq_false hd
        have p0 : wr.cell? ⟨w1.heap.size, k * 2, none⟩ = some (.float .f64 (tabF (onT t k) k 0)) := sg.cell hkn (show 0 < 2 by omega)
        have p1 : wr.cell? ⟨w1.heap.size, k * 2 + 1, none⟩ = some (.float .f64 (tabF (onT t k) k 1)) := sg.cell hkn (show 1 < 2 by omega)
        have pf := fun j => Own.frozen ht.b j
        have HS : Hid (Two w.heap.size w w.heap.size w1.heap.size 40 103 wr ∧ SegM wr w1.heap.size 103 20 2 (tabF (onT t k))) := ⟨ht, sg⟩
        clear ht sg hd hd0
        go_wp2
        go_roundw
        case rel =>
          obtain ⟨ht, sg⟩ := HS.out
          refine ⟨k + 1, by omega, by simp, (ht.setB _ _).setB _ _, ?_⟩
          have g0 := sg.set (k := k) (l := 0) hkn (by omega) 0
          have g1 := g0.set (k := k) (l := 1) hkn (by omega) 0
          refine SegM.congr g1 fun i hi j hj => ?_
          unfold tabF onT
          by_cases e : i = k
          · subst e
            match j, hj with
            | 0, _ => simp [hdg]
            | 1, _ => simp [hdg]
          · by_cases e2 : i < k
            · simp [e, e2, show i < k + 1 by omega]
            · simp [e, e2, show ¬ i < k + 1 by omega]
        case measure => simp [intOf]; omega
    · obtain rfl : k = 20 := by omega
      obtain ⟨c2, hc2, hr⟩ := seg_rts sg ht.b
      have hc3 : Rts c2 (dig t) := rts_on hc2 (fun i hi => by simp [onT, hi])
      have hth : wr.there w.heap.size 0 c2.size := by rw [hc2.size]; exact own_there ht.a
      have h1 := rts_one hc2
      have hsz : (Try.prog.info? 103).map (·.size) = some c2.size := by rw [hc2.size]; exact info74
      have hsz' : (Try.prog.info? 103).map (·.size) = some c2.toList.length := by rw [Array.length_toList]; exact hsz
      go_wp2_with (first | (refine wpList_load_mid rfl 103 _ rfl w1.heap.size 0 rfl c2.toList _ hr Try.underlying103 rfl hsz' ?_) | (refine wpList_store_mid rfl 103 _ _ rfl w.heap.size 0 c2 rfl rfl hth hsz h1 ?_))
      have t5 := two_setCellsA ht 0 c2.toList
      obtain ⟨c', hb', hR⟩ := rts_block t5.a (World.rangeAt_setCells_same _ _ _ _ (by rw [Array.length_toList]; exact hth)) hc3
      exact bodyPost_ret (v := .agg c') (results_cell_row Try.results88 _ _ w.heap.size 103 c' (0, 0) _ rfl hb' Try.underlying103 rfl (by rw [hR.size]; exact info74)) rfl ⟨c', rfl, hR, t5.a.below⟩
end Go.Proofs.Ytgidoceflkdklaa
