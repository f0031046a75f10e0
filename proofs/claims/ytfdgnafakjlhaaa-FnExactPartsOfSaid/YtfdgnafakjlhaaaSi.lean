/- PartsOf, as the program reckons it. -/
import Derived.Test.YtfdgnafakjlhaaaPv
import Derived.Test.YtfdgnafakjlhaaaRo
import Derived.Test.YtfdgnafakjlhaaaFl
namespace Go.Proofs.Ytfdgnafakjlhaaa
open Go.RowKit
set_option linter.unusedVariables false
set_option linter.unusedSimpArgs false
theorem make0Pt (n : Nat) (hn : n ≤ 1000000000) (w : World) : (Instr.makeSlice 46 (.int .i64 0) (.int .i64 (2 * (n : Int)))).run Try.prog w = .ok (.slice (some ⟨w.heap.size, 0, none⟩) 0 (2 * n)) (w.alloc (.cells (madeCells #[.int .i64 0, .int .i64 0, .int .i64 0] (2 * n * 3)) 99)) := by
  obtain ⟨i, hi, hzz⟩ := Option.map_eq_some_iff.1 infoPt
  simp only [Prod.mk.injEq] at hzz
  obtain ⟨hz, hs, hb⟩ := hzz
  have hr := run_make (P := Try.prog) w 46 99 i _ Try.underlying46 hi hz .i64 .i64 0 ((2 * n : Nat) : Int) (by omega) (by omega) (by rw [hb]; omega) (by omega)
  rw [hs, show (((2 * n : Nat)) : Int) = 2 * (n : Int) by omega] at hr
  have e : (2 * (n : Int)).toNat = 2 * n := by omega
  simpa [Value.cells, e] using hr
def g3 (a b c : Q) : Nat → Q
  | 0 => a
  | 1 => b
  | _ => c
theorem any3 (a b c : Q) (k cap : Nat) (w : World) (h0 : w.cell? ⟨k, 0, none⟩ = some (.int .i64 a.n)) (h1 : w.cell? ⟨k, 1, none⟩ = some (.int .i64 a.d)) (h2 : w.cell? ⟨k, 2, none⟩ = some (.int .i64 b.n)) (h3 : w.cell? ⟨k, 3, none⟩ = some (.int .i64 b.d)) (h4 : w.cell? ⟨k, 4, none⟩ = some (.int .i64 c.n)) (h5 : w.cell? ⟨k, 5, none⟩ = some (.int .i64 c.d)) :
    Calls Try.prog 74 #[.slice (some ⟨k, 0, none⟩) 3 cap] w fun e w' => e = .returned (.bool (!(a.ok && (b.ok && c.ok)))) ∧ Below w.heap.size w w' := by
  have h := anyf k 3 cap (g3 a b c) w (by omega) (by
    intro i hi
    match i, hi with
    | 0, _ => exact ⟨h0, h1⟩
    | 1, _ => exact ⟨h2, h3⟩
    | 2, _ => exact ⟨h4, h5⟩)
  rw [show allB (g3 a b c) 3 = (a.ok && (b.ok && c.ok)) by simp [allB, List.range, List.range.loop, g3]] at h
  exact h
theorem good_flag (G : Nat → Ps) (k : Nat) : (((false || !subK (G k).x (pb G k)) || !mulK (subQ (G k).x (pb G k)) (G k).c) || !divK (G k).g (G k).x) = !goodAt G k := by
  unfold goodAt pwK gpK
  cases subK (G k).x (pb G k) <;> cases mulK (subQ (G k).x (pb G k)) (G k).c <;> cases divK (G k).g (G k).x <;> rfl
set_option maxRecDepth 20000 in
set_option maxHeartbeats 40000000 in
theorem ipartsOf (b off n cap : Nat) (G : Nat → Ps) (w : World) (hn : n ≤ 1000000000) (hc : ∀ i, i < n → ∀ j, j < 11 → w.cell? ⟨b, off + i * 11 + j, none⟩ = some (pcell (G i) j)) :
    Calls Try.prog 26 #[.slice (some ⟨b, off, none⟩) n cap] w fun e w' => ∃ v, e = .returned (.agg #[.int .i64 (pcode G n), v]) ∧ PAns G n w v w' ∧ Below w.heap.size w w' := by
  by_cases hbig : 40 < n
  · have hpc : pcode G n = 2 := if_pos hbig
    go_enter Try.func26, Try.ntmps26
    go_wp2
    refine bodyPost_ret (v := .agg #[.int .i64 2, .slice none 0 0]) (by simp [results, Try.results26, go_sem] <;> (repeat' (first | rfl | apply And.intro))) rfl ⟨_, by rw [hpc], Or.inl ⟨by rw [hpc]; decide, rfl⟩, ?_⟩
    go_grown
  have h40 : n ≤ 40 := by omega
  have HCC : Hid (∀ (W : World), Below w.heap.size w W → ∀ i, i < n → ∀ j, j < 11 → W.cell? ⟨b, off + i * 11 + j, none⟩ = some (pcell (G i) j)) := fun W hb i hi j hj => (hb.cell (World.block_lt_of_cell? _ _ (hc i hi j hj))).trans (hc i hi j hj)
  have hpc : pcode G n = pcF G n 0 := if_neg hbig
  have hmk := make0Pt n hn
  clear hc
  go_enter Try.func26, Try.ntmps26
  go_wp2_with fail
  clear hmk
  refine (iwhole_any 1 _).mono ?_
  rintro e w1 ⟨rfl, hb⟩
  have HZ : Hid (PSt w G n w.heap.size w1.heap.size (w1.alloc (.cells #[.int .i64 1, .int .i64 1] 36)) (.slice (some ⟨w.heap.size + 1, 0, none⟩) 0 (2 * n)) 0) := by
    have hr : Blk (w.alloc (.cells #[.int .i64 0, .slice none 0 0] 48)) w.heap.size #[.int .i64 0, .slice none 0 0] 48 := Blk.new rfl
    have ho := owns_low (owns_made (w.alloc (.cells #[.int .i64 0, .slice none 0 0] 48)) #[.int .i64 0, .int .i64 0, .int .i64 0] (2 * n) 3 99 (by unfold maxLen; omega)) (base' := w.heap.size) (by simp)
    have hbel : Below w.heap.size w w1 := Below.trans (by go_grown) (hb.mono (by simp <;> omega))
    refine ⟨?_, by simp, ((hr.alloc _).old hb).alloc _, Blk.new rfl, hbel.alloc hbel.size _, Nat.le_refl _, hbel.size, fun j hj => absurd hj (by omega), by rw [hpc]; rfl⟩
    have h2 := (owns_later ho hb).alloc (.cells #[.int .i64 1, .int .i64 1] 36)
    rw [flat_zero]
    simpa using h2
  have hs := hb.size
  clear hb
  go_wp2_with fail
  generalize w1.alloc (.cells #[.int .i64 1, .int .i64 1] 36) = W1 at HZ ⊢
  generalize w1.heap.size = q at HZ hs ⊢
  go_loopw [3, 21] (fun v i wr => ∃ k : Nat, k ≤ n ∧ i = .int .i64 k ∧ Hid (PSt w G n w.heap.size q wr v k)) (fun _ i _ => n - (intOf i).toNat)
  case atStart => exact ⟨0, Nat.zero_le _, rfl, HZ⟩
  case round =>
    obtain ⟨k, hk, rfl, HP⟩ := hrel
    clear HZ
    by_cases hkn : k < n
    · have hkI : (k : Int) < n := by omega
      have HPq : Hid (q < wr.heap.size) := HP.out.bef.lt
      have HL : Hid (Below w.heap.size w wr ∧ w.heap.size ≤ q) := ⟨HP.out.below, HP.out.lowq⟩
      have B_R : Hid (Blk wr (w.heap.size) #[.int .i64 0, .slice none 0 0] 48) := HP.out.res
      have B_q : Hid (Blk wr (q) #[.int .i64 (pb G k).n, .int .i64 (pb G k).d] 36) := HP.out.bef
      have HO : Hid (Below wr.heap.size wr wr) := Below.refl _ _
      have g0 : wr.cell? ⟨b, off + k * 11, none⟩ = some (.int .i64 (G k).c.n) := HCC.out wr HP.out.below k hkn 0 (by omega)
      have g1 : wr.cell? ⟨b, off + k * 11 + 1, none⟩ = some (.int .i64 (G k).c.d) := HCC.out wr HP.out.below k hkn 1 (by omega)
      have g2 : wr.cell? ⟨b, off + k * 11 + 2, none⟩ = some (.int .i64 (G k).g.n) := HCC.out wr HP.out.below k hkn 2 (by omega)
      have g3 : wr.cell? ⟨b, off + k * 11 + 3, none⟩ = some (.int .i64 (G k).g.d) := HCC.out wr HP.out.below k hkn 3 (by omega)
      have g4 : wr.cell? ⟨b, off + k * 11 + 4, none⟩ = some (.int .i64 (G k).x.n) := HCC.out wr HP.out.below k hkn 4 (by omega)
      have g5 : wr.cell? ⟨b, off + k * 11 + 5, none⟩ = some (.int .i64 (G k).x.d) := HCC.out wr HP.out.below k hkn 5 (by omega)
      have g6 : wr.cell? ⟨b, off + k * 11 + 6, none⟩ = some (.int .i64 (G k).s.n) := HCC.out wr HP.out.below k hkn 6 (by omega)
      have g7 : wr.cell? ⟨b, off + k * 11 + 7, none⟩ = some (.int .i64 (G k).s.d) := HCC.out wr HP.out.below k hkn 7 (by omega)
      have g8 : wr.cell? ⟨b, off + k * 11 + 8, none⟩ = some (.int .i64 (G k).k.n) := HCC.out wr HP.out.below k hkn 8 (by omega)
      have g9 : wr.cell? ⟨b, off + k * 11 + 9, none⟩ = some (.int .i64 (G k).k.d) := HCC.out wr HP.out.below k hkn 9 (by omega)
      have g10 : wr.cell? ⟨b, off + k * 11 + 10, none⟩ = some (.bool (G k).t) := HCC.out wr HP.out.below k hkn 10 (by omega)
      go_wp2_with fail
      refine Calls.mono (any3 (G k).c (G k).g (G k).x _ _ _ ?_ ?_ ?_ ?_ ?_ ?_) ?_
      · exact cell_new (by simp) rfl
      · exact cell_new (by simp) rfl
      · exact cell_new (by simp) rfl
      · exact cell_new (by simp) rfl
      · exact cell_new (by simp) rfl
      · exact cell_new (by simp) rfl
      rintro e v1 ⟨rfl, hb⟩
      clear g0 g1 g2 g3 g4 g5 g6 g7 g8 g9 g10
      replace B_R : Hid (Blk v1 (w.heap.size) #[.int .i64 0, .slice none 0 0] 48) := Blk.old (Blk.alloc (Blk.alloc B_R.out _) _) hb
      replace B_q : Hid (Blk v1 (q) #[.int .i64 (pb G k).n, .int .i64 (pb G k).d] 36) := Blk.old (Blk.alloc (Blk.alloc B_q.out _) _) hb
      have B_u : Hid (Blk v1 (wr.heap.size) #[.int .i64 (G k).c.n, .int .i64 (G k).c.d, .int .i64 (G k).g.n, .int .i64 (G k).g.d, .int .i64 (G k).x.n, .int .i64 (G k).x.d, .int .i64 (G k).s.n, .int .i64 (G k).s.d, .int .i64 (G k).k.n, .int .i64 (G k).k.d, .bool (G k).t] 45) := Blk.old (Blk.alloc (Blk.new (by simp)) _) hb
      replace HO : Hid (Below wr.heap.size wr v1) := by have h := HO.out; have h0 := h.size; refine box_step ?_ hb (by go_size); go_grown
      clear hb
      cases h1 : ((G k).c.ok && ((G k).g.ok && (G k).x.ok))
      · have HC : Hid (pcode G n = 1) := HP.out.no hkn (by unfold fine; rw [← Bool.and_assoc, ← Bool.and_assoc, Bool.and_assoc (G k).c.ok, h1]; rfl)
        have R_0 := B_R.out.cell (j := 0) rfl
        have R_1 := B_R.out.cell (j := 1) rfl
        have R_f := B_R.out.frozen
        have R_z := B_R.out.lt
        clear B_R B_q B_u
        clear HP HCC 
        go_wp2
        refine bodyPost_ret (v := .agg #[.int .i64 1, .slice none 0 0]) (by simp [results, Try.results26, go_sem, R_0, R_1] <;> (repeat' (first | rfl | apply And.intro))) rfl ⟨_, by rw [HC.out], Or.inl ⟨by rw [HC.out]; decide, rfl⟩, ?_⟩
        have h := HL.out.1.trans (HO.out.mono HL.out.1.size)
        have hl := HL.out.2
        go_grown
      · by_cases h4 : (G k).x.n ≤ 0
        · have h4b : decide ((G k).x.n ≤ 0) = true := by simp; omega
          have HC : Hid (pcode G n = 1) := HP.out.no hkn (by unfold fine; have : decide (1 ≤ (G k).x.n) = false := (by simp; omega); simp [this])
          have R_0 := B_R.out.cell (j := 0) rfl
          have R_1 := B_R.out.cell (j := 1) rfl
          have R_f := B_R.out.frozen
          have R_z := B_R.out.lt
          have u_0 := B_u.out.cell (j := 0) rfl
          have u_1 := B_u.out.cell (j := 1) rfl
          have u_2 := B_u.out.cell (j := 2) rfl
          have u_3 := B_u.out.cell (j := 3) rfl
          have u_4 := B_u.out.cell (j := 4) rfl
          have u_5 := B_u.out.cell (j := 5) rfl
          have u_6 := B_u.out.cell (j := 6) rfl
          have u_7 := B_u.out.cell (j := 7) rfl
          have u_8 := B_u.out.cell (j := 8) rfl
          have u_9 := B_u.out.cell (j := 9) rfl
          have u_10 := B_u.out.cell (j := 10) rfl
          have u_f := B_u.out.frozen
          have u_z := B_u.out.lt
          clear B_R B_q B_u
          clear HP HCC 
          go_wp2
          refine bodyPost_ret (v := .agg #[.int .i64 1, .slice none 0 0]) (by simp [results, Try.results26, go_sem, R_0, R_1] <;> (repeat' (first | rfl | apply And.intro))) rfl ⟨_, by rw [HC.out], Or.inl ⟨by rw [HC.out]; decide, rfl⟩, ?_⟩
          have h := HL.out.1.trans (HO.out.mono HL.out.1.size)
          have hl := HL.out.2
          go_grown
        · have h4b : decide ((G k).x.n ≤ 0) = false := by simp; omega
          have hfin : Hid (fine (G k) = true) := by show fine (G k) = true; unfold fine; have h9 : decide (1 ≤ (G k).x.n) = true := (by simp; omega); rw [h9, Bool.and_true]; exact h1
          have u_0 := B_u.out.cell (j := 0) rfl
          have u_1 := B_u.out.cell (j := 1) rfl
          have u_2 := B_u.out.cell (j := 2) rfl
          have u_3 := B_u.out.cell (j := 3) rfl
          have u_4 := B_u.out.cell (j := 4) rfl
          have u_5 := B_u.out.cell (j := 5) rfl
          have u_6 := B_u.out.cell (j := 6) rfl
          have u_7 := B_u.out.cell (j := 7) rfl
          have u_8 := B_u.out.cell (j := 8) rfl
          have u_9 := B_u.out.cell (j := 9) rfl
          have u_10 := B_u.out.cell (j := 10) rfl
          have u_f := B_u.out.frozen
          have u_z := B_u.out.lt
          go_upto_region 11 with fail
          clear u_0 u_1 u_2 u_3 u_4 u_5 u_6 u_7 u_8 u_9 u_10 u_f u_z
          obtain ⟨v2, hw⟩ : ∃ X, X = v1.alloc (.cells #[.bool false] 125) := ⟨_, rfl⟩
          rw [← hw]
          have ne_R_fl : Hid (w.heap.size ≠ v1.heap.size) := Nat.ne_of_lt (B_R.out.lt)
          have ne_q_fl : Hid (q ≠ v1.heap.size) := Nat.ne_of_lt (B_q.out.lt)
          have ne_u_fl : Hid (wr.heap.size ≠ v1.heap.size) := Nat.ne_of_lt (B_u.out.lt)
          replace B_R : Hid (Blk v2 (w.heap.size) #[.int .i64 0, .slice none 0 0] 48) := by rw [hw]; exact Blk.alloc B_R.out _
          replace B_q : Hid (Blk v2 (q) #[.int .i64 (pb G k).n, .int .i64 (pb G k).d] 36) := by rw [hw]; exact Blk.alloc B_q.out _
          replace B_u : Hid (Blk v2 (wr.heap.size) #[.int .i64 (G k).c.n, .int .i64 (G k).c.d, .int .i64 (G k).g.n, .int .i64 (G k).g.d, .int .i64 (G k).x.n, .int .i64 (G k).x.d, .int .i64 (G k).s.n, .int .i64 (G k).s.d, .int .i64 (G k).k.n, .int .i64 (G k).k.d, .bool (G k).t] 45) := by rw [hw]; exact Blk.alloc B_u.out _
          have B_fl : Hid (Blk v2 (v1.heap.size) #[.bool false] 125) := by rw [hw]; exact Blk.new rfl
          have low_fl : Hid (wr.heap.size ≤ v1.heap.size) := HO.out.size
          replace HO : Hid (Below wr.heap.size wr v2) := by rw [hw]; exact HO.out.alloc HO.out.size _
          clear hw
          obtain ⟨r, hr⟩ : ∃ r, r = v1.heap.size := ⟨_, rfl⟩
          have FL : Hid (flag r false v2) := by rw [hr]; exact B_fl.out
          have nr_R : Hid (w.heap.size ≠ r) := by rw [hr]; exact ne_R_fl.out
          have nr_q : Hid (q ≠ r) := by rw [hr]; exact ne_q_fl.out
          have nr_u : Hid (wr.heap.size ≠ r) := by rw [hr]; exact ne_u_fl.out
          have hrw : wr.heap.size ≤ r := by rw [hr]; exact low_fl.out
          rw [← hr]
          clear B_fl low_fl ne_R_fl ne_q_fl ne_u_fl hr
          have hrl : r < v2.heap.size := FL.out.lt
          have k_u_0 : ∀ W, But r v2.heap.size v2 W → W.cell? ⟨wr.heap.size, 0, none⟩ = some (.int .i64 (G k).c.n) := fun _ h => kbut h (B_u.out.cell (j := 0) rfl) nr_u.out
          have k_u_1 : ∀ W, But r v2.heap.size v2 W → W.cell? ⟨wr.heap.size, 1, none⟩ = some (.int .i64 (G k).c.d) := fun _ h => kbut h (B_u.out.cell (j := 1) rfl) nr_u.out
          have k_u_2 : ∀ W, But r v2.heap.size v2 W → W.cell? ⟨wr.heap.size, 2, none⟩ = some (.int .i64 (G k).g.n) := fun _ h => kbut h (B_u.out.cell (j := 2) rfl) nr_u.out
          have k_u_3 : ∀ W, But r v2.heap.size v2 W → W.cell? ⟨wr.heap.size, 3, none⟩ = some (.int .i64 (G k).g.d) := fun _ h => kbut h (B_u.out.cell (j := 3) rfl) nr_u.out
          have k_u_4 : ∀ W, But r v2.heap.size v2 W → W.cell? ⟨wr.heap.size, 4, none⟩ = some (.int .i64 (G k).x.n) := fun _ h => kbut h (B_u.out.cell (j := 4) rfl) nr_u.out
          have k_u_5 : ∀ W, But r v2.heap.size v2 W → W.cell? ⟨wr.heap.size, 5, none⟩ = some (.int .i64 (G k).x.d) := fun _ h => kbut h (B_u.out.cell (j := 5) rfl) nr_u.out
          have k_u_6 : ∀ W, But r v2.heap.size v2 W → W.cell? ⟨wr.heap.size, 6, none⟩ = some (.int .i64 (G k).s.n) := fun _ h => kbut h (B_u.out.cell (j := 6) rfl) nr_u.out
          have k_u_7 : ∀ W, But r v2.heap.size v2 W → W.cell? ⟨wr.heap.size, 7, none⟩ = some (.int .i64 (G k).s.d) := fun _ h => kbut h (B_u.out.cell (j := 7) rfl) nr_u.out
          have k_u_8 : ∀ W, But r v2.heap.size v2 W → W.cell? ⟨wr.heap.size, 8, none⟩ = some (.int .i64 (G k).k.n) := fun _ h => kbut h (B_u.out.cell (j := 8) rfl) nr_u.out
          have k_u_9 : ∀ W, But r v2.heap.size v2 W → W.cell? ⟨wr.heap.size, 9, none⟩ = some (.int .i64 (G k).k.d) := fun _ h => kbut h (B_u.out.cell (j := 9) rfl) nr_u.out
          have k_u_10 : ∀ W, But r v2.heap.size v2 W → W.cell? ⟨wr.heap.size, 10, none⟩ = some (.bool (G k).t) := fun _ h => kbut h (B_u.out.cell (j := 10) rfl) nr_u.out
          have k_q_0 : ∀ W, But r v2.heap.size v2 W → W.cell? ⟨q, 0, none⟩ = some (.int .i64 (pb G k).n) := fun _ h => kbut h (B_q.out.cell (j := 0) rfl) nr_q.out
          have k_q_1 : ∀ W, But r v2.heap.size v2 W → W.cell? ⟨q, 1, none⟩ = some (.int .i64 (pb G k).d) := fun _ h => kbut h (B_q.out.cell (j := 1) rfl) nr_q.out
          have hR0 : But r v2.heap.size v2 v2 := But.refl _ _ _
          have F0 : flag r false v2 := FL.out
          have hn0 : v2.heap.size ≠ r := by omega
          go_wp2_with fail
          go_cut [8] (fun p wx => ∃ kx : Nat, p = .pointer (some ⟨kx, 0, none⟩) ∧ v2.heap.size ≤ kx ∧ kx < wx.heap.size ∧ But r v2.heap.size v2 wx ∧ flag r ((false || !subK (G k).x (pb G k)) || !mulK (subQ (G k).x (pb G k)) (G k).c) wx ∧ wx.cell? ⟨kx, 0, none⟩ = some (.int .i64 (pwQ (pb G k) (G k)).n) ∧ wx.cell? ⟨kx, 1, none⟩ = some (.int .i64 (pwQ (pb G k) (G k)).d))
          case first =>
            go_region_held3 (fun W => But r v2.heap.size v2 W) ((repeat' (first | (with_reducible exact But.refl _ _ _) | (with_reducible assumption) | (with_reducible refine But.setFlag ?_ _) | (with_reducible refine But.alloc ?_ ?_ _) | (with_reducible refine But.drew ?_) | (with_reducible refine But.setCell ?_ ?_ _) | go_size))) (first | (go_at_call 76; refine Calls.mono (rdiff (G k).x (pb G k) r _ _ (by (repeat' (first | (with_reducible assumption) | (with_reducible apply flag.set) | (with_reducible apply flag.alloc) | (with_reducible apply flag.drew) | (with_reducible apply flag.setOther) | omega | (simp; omega) | (simp; done))))) ?_; rintro e wz ⟨rfl, hb1, F1⟩; have hs1 := hb1.size; (try simp at hs1); have hR1 : But r v2.heap.size v2 wz := (by refine But.call ?_ hb1 (by go_size); (repeat' (first | (with_reducible exact But.refl _ _ _) | (with_reducible assumption) | (with_reducible refine But.setFlag ?_ _) | (with_reducible refine But.alloc ?_ ?_ _) | (with_reducible refine But.drew ?_) | (with_reducible refine But.setCell ?_ ?_ _) | go_size))); have hn1 : wz.heap.size ≠ r := (by have := hR1.size; omega); (first | (have hZ := But.trans hZ (But.mono hb1 hZ.size)) | (have hZ := hb1)); obtain ⟨ho1, hf1, hz1⟩ := oldsB hZ) | (go_at_call 75; refine Calls.mono (rprod (subQ (G k).x (pb G k)) (G k).c r _ _ (by (repeat' (first | (with_reducible assumption) | (with_reducible apply flag.set) | (with_reducible apply flag.alloc) | (with_reducible apply flag.drew) | (with_reducible apply flag.setOther) | omega | (simp; omega) | (simp; done))))) ?_; rintro e wz ⟨rfl, hb1, F1⟩; have hs1 := hb1.size; (try simp at hs1); have hR1 : But r v2.heap.size v2 wz := (by refine But.call ?_ hb1 (by go_size); (repeat' (first | (with_reducible exact But.refl _ _ _) | (with_reducible assumption) | (with_reducible refine But.setFlag ?_ _) | (with_reducible refine But.alloc ?_ ?_ _) | (with_reducible refine But.drew ?_) | (with_reducible refine But.setCell ?_ ?_ _) | go_size))); have hn1 : wz.heap.size ≠ r := (by have := hR1.size; omega); (first | (have hZ := But.trans hZ (But.mono hb1 hZ.size)) | (have hZ := hb1)); obtain ⟨ho1, hf1, hz1⟩ := oldsB hZ))
            all_goals
              go_wp2_with fail
              go_meet
              case rel =>
                refine ⟨_, rfl, ?_, ?_, ?_, ?_, ?_, ?_⟩
                · omega
                · simp [World.setCell] <;> omega
                · (repeat' (first | (with_reducible exact But.refl _ _ _) | (with_reducible assumption) | (with_reducible refine But.setFlag ?_ _) | (with_reducible refine But.alloc ?_ ?_ _) | (with_reducible refine But.drew ?_) | (with_reducible refine But.setCell ?_ ?_ _) | go_size))
                · (repeat' (first | (with_reducible assumption) | (with_reducible apply flag.set) | (with_reducible apply flag.alloc) | (with_reducible apply flag.drew) | (with_reducible apply flag.setOther) | omega | (simp; omega) | (simp; done)))
                · go_simp <;> rfl
                · go_simp <;> rfl
          case rest =>
            obtain ⟨kp, rfl, hk1, hk2, hB, hF, d0, d1⟩ := hcut
            clear k_u_0 k_u_1 k_u_2 k_u_3 k_u_4 k_u_5 k_u_6 k_u_7 k_u_8 k_u_9 k_u_10 k_q_0 k_q_1 hR0 F0 hn0
            obtain ⟨v3, hv⟩ : ∃ v, v = wc := ⟨_, rfl⟩
            subst hv
            replace HO : Hid (Below wr.heap.size wr v3) := HO.out.trans ((hB.mono HO.out.size).below hrw)
            replace B_R : Hid (Blk v3 (w.heap.size) #[.int .i64 0, .slice none 0 0] 48) := Blk.but B_R.out hB nr_R.out
            replace B_q : Hid (Blk v3 (q) #[.int .i64 (pb G k).n, .int .i64 (pb G k).d] 36) := Blk.but B_q.out hB nr_q.out
            replace B_u : Hid (Blk v3 (wr.heap.size) #[.int .i64 (G k).c.n, .int .i64 (G k).c.d, .int .i64 (G k).g.n, .int .i64 (G k).g.d, .int .i64 (G k).x.n, .int .i64 (G k).x.d, .int .i64 (G k).s.n, .int .i64 (G k).s.d, .int .i64 (G k).k.n, .int .i64 (G k).k.d, .bool (G k).t] 45) := Blk.but B_u.out hB nr_u.out
            replace FL : Hid (flag r ((false || !subK (G k).x (pb G k)) || !mulK (subQ (G k).x (pb G k)) (G k).c) v3) := hF
            have nr_pw : Hid (kp ≠ r) := by show kp ≠ r; omega
            have C_pw_0 : Hid (v3.cell? ⟨kp, 0, none⟩ = some (.int .i64 (pwQ (pb G k) (G k)).n)) := d0
            have C_pw_1 : Hid (v3.cell? ⟨kp, 1, none⟩ = some (.int .i64 (pwQ (pb G k) (G k)).d)) := d1
            clear hB hF hk1 hk2 d0 d1 hrl
            have hrl : r < v3.heap.size := FL.out.lt
            have u_0 := B_u.out.cell (j := 0) rfl
            have u_1 := B_u.out.cell (j := 1) rfl
            have u_2 := B_u.out.cell (j := 2) rfl
            have u_3 := B_u.out.cell (j := 3) rfl
            have u_4 := B_u.out.cell (j := 4) rfl
            have u_5 := B_u.out.cell (j := 5) rfl
            have u_6 := B_u.out.cell (j := 6) rfl
            have u_7 := B_u.out.cell (j := 7) rfl
            have u_8 := B_u.out.cell (j := 8) rfl
            have u_9 := B_u.out.cell (j := 9) rfl
            have u_10 := B_u.out.cell (j := 10) rfl
            have u_f := B_u.out.frozen
            have u_z := B_u.out.lt
            go_wp2_with fail
            refine Calls.mono (rquot (G k).g (G k).x r _ _ FL.out) ?_
            rintro e v4 ⟨rfl, hb1, F1⟩
            clear u_0 u_1 u_2 u_3 u_4 u_5 u_6 u_7 u_8 u_9 u_10 u_f u_z
            replace HO : Hid (Below wr.heap.size wr v4) := HO.out.trans ((hb1.mono HO.out.size).below hrw)
            replace B_R : Hid (Blk v4 (w.heap.size) #[.int .i64 0, .slice none 0 0] 48) := Blk.but B_R.out hb1 nr_R.out
            replace B_q : Hid (Blk v4 (q) #[.int .i64 (pb G k).n, .int .i64 (pb G k).d] 36) := Blk.but B_q.out hb1 nr_q.out
            replace B_u : Hid (Blk v4 (wr.heap.size) #[.int .i64 (G k).c.n, .int .i64 (G k).c.d, .int .i64 (G k).g.n, .int .i64 (G k).g.d, .int .i64 (G k).x.n, .int .i64 (G k).x.d, .int .i64 (G k).s.n, .int .i64 (G k).s.d, .int .i64 (G k).k.n, .int .i64 (G k).k.d, .bool (G k).t] 45) := Blk.but B_u.out hb1 nr_u.out
            replace C_pw_0 : Hid (v4.cell? ⟨kp, 0, none⟩ = some (.int .i64 (pwQ (pb G k) (G k)).n)) := kbut hb1 C_pw_0.out nr_pw.out
            replace C_pw_1 : Hid (v4.cell? ⟨kp, 1, none⟩ = some (.int .i64 (pwQ (pb G k) (G k)).d)) := kbut hb1 C_pw_1.out nr_pw.out
            rw [good_flag] at F1
            replace FL : Hid (flag r (!goodAt G k) v4) := F1
            clear hb1 F1 hrl
            go_upto_region 13 with fail
            obtain ⟨v5, hw⟩ : ∃ X, X = v4.alloc (.cells #[.int .i64 (divQ (G k).g (G k).x).n, .int .i64 (divQ (G k).g (G k).x).d] 36) := ⟨_, rfl⟩
            rw [← hw]
            have ne_R_gp : Hid (w.heap.size ≠ v4.heap.size) := Nat.ne_of_lt (B_R.out.lt)
            have ne_q_gp : Hid (q ≠ v4.heap.size) := Nat.ne_of_lt (B_q.out.lt)
            have ne_u_gp : Hid (wr.heap.size ≠ v4.heap.size) := Nat.ne_of_lt (B_u.out.lt)
            have ne_pw_gp : Hid (kp ≠ v4.heap.size) := Nat.ne_of_lt (World.block_lt_of_cell? _ _ C_pw_0.out)
            replace B_R : Hid (Blk v5 (w.heap.size) #[.int .i64 0, .slice none 0 0] 48) := by rw [hw]; exact Blk.alloc B_R.out _
            replace B_q : Hid (Blk v5 (q) #[.int .i64 (pb G k).n, .int .i64 (pb G k).d] 36) := by rw [hw]; exact Blk.alloc B_q.out _
            replace B_u : Hid (Blk v5 (wr.heap.size) #[.int .i64 (G k).c.n, .int .i64 (G k).c.d, .int .i64 (G k).g.n, .int .i64 (G k).g.d, .int .i64 (G k).x.n, .int .i64 (G k).x.d, .int .i64 (G k).s.n, .int .i64 (G k).s.d, .int .i64 (G k).k.n, .int .i64 (G k).k.d, .bool (G k).t] 45) := by rw [hw]; exact Blk.alloc B_u.out _
            replace C_pw_0 : Hid (v5.cell? ⟨kp, 0, none⟩ = some (.int .i64 (pwQ (pb G k) (G k)).n)) := by rw [hw]; exact cell_old C_pw_0.out
            replace C_pw_1 : Hid (v5.cell? ⟨kp, 1, none⟩ = some (.int .i64 (pwQ (pb G k) (G k)).d)) := by rw [hw]; exact cell_old C_pw_1.out
            have B_gp : Hid (Blk v5 (v4.heap.size) #[.int .i64 (divQ (G k).g (G k).x).n, .int .i64 (divQ (G k).g (G k).x).d] 36) := by rw [hw]; exact Blk.new rfl
            have low_gp : Hid (wr.heap.size ≤ v4.heap.size) := HO.out.size
            replace HO : Hid (Below wr.heap.size wr v5) := by rw [hw]; exact HO.out.alloc HO.out.size _
            replace FL : Hid (flag r (!goodAt G k) v5) := by rw [hw]; exact flag.alloc FL.out _
            clear hw
            have fl_0 := FL.out.cell
            cases h5 : goodAt G k
            · have HC : Hid (pcode G n = 3) := HP.out.bad hkn hfin.out h5
              have R_0 := B_R.out.cell (j := 0) rfl
              have R_1 := B_R.out.cell (j := 1) rfl
              have R_f := B_R.out.frozen
              have R_z := B_R.out.lt
              rw [h5] at fl_0
              clear B_R B_q B_u C_pw_0 C_pw_1 B_gp ne_R_gp ne_q_gp ne_u_gp ne_pw_gp low_gp
              clear HP HCC h1 h4 h4b h5 hfin HPq FL nr_R nr_q nr_u nr_pw
              repeat go_step
              refine bodyPost_ret (v := .agg #[.int .i64 3, .slice none 0 0]) (by simp [results, Try.results26, go_sem, R_0, R_1] <;> (repeat' (first | rfl | apply And.intro))) rfl ⟨_, by rw [HC.out], Or.inl ⟨by rw [HC.out]; decide, rfl⟩, ?_⟩
              have h := HL.out.1.trans (HO.out.mono HL.out.1.size)
              have hl := HL.out.2
              go_grown
            · have h2 := h1
              have h3 := h1
              have h6 := h5
              have h7 := h5
              have HN : Hid (v5.ownsRow w.heap.size 99 3 u3 (2 * k) (flat (pp G) k) ∧ w.heap.size ≤ v5.heap.size) := ⟨owns_later HP.out.own HO.out, Nat.le_trans HP.out.below.size HO.out.size⟩
              have hgood : Hid (goodAt G k = true) := h5
              have pw_0 := C_pw_0.out
              have pw_1 := C_pw_1.out
              have pw_z := World.block_lt_of_cell? _ _ C_pw_0.out
              have gp_0 := B_gp.out.cell (j := 0) rfl
              have gp_1 := B_gp.out.cell (j := 1) rfl
              have gp_f := B_gp.out.frozen
              have gp_z := B_gp.out.lt
              rw [h5] at fl_0
              clear B_R C_pw_0 C_pw_1 B_gp ne_R_gp ne_q_gp ne_u_gp ne_pw_gp low_gp
              clear HCC HL
              have uq : wr.heap.size ≠ q := Nat.ne_of_gt HPq.out
              clear h1 h2 h3 h4 h5 h6 h7 HPq
              go_wp2_with (first | (at_builtin; refine push_many rfl (.tmp 56) (.tmp 61) 46 rfl 99 (.agg #[.int .i64 0, .int .i64 0, .int .i64 0]) 3 24 Try.underlying46 infoPt rfl (by decide) (by decide) _ [_, _, _, _, _, _] rfl (by simp [Value.oneCell']) w.heap.size u3 (2 * k) _ rfl HN.out.1 2 rfl (by omega) HN.out.2 ?_; intro v1 w9 own3 grow3 nn3; have HQ : Hid (PSt w G n w.heap.size q ((w9.setCell ⟨q, 0, none⟩ (.int .i64 (G k).x.n)).setCell ⟨q, 1, none⟩ (.int .i64 (G k).x.d)) v1 (k + 1)) := HP.out.push HO.out hkn hfin.out hgood.out rfl own3 grow3 nn3; have bu := block_other (B_u.out.alloc _) grow3 (HN.out.1.alloc _) (by decide); have bq := block_other (B_q.out.alloc _) grow3 (HN.out.1.alloc _) (by decide); clear own3 grow3 nn3; have u_4 := Blk.cell (j := 4) bu rfl; have u_5 := Blk.cell (j := 5) bu rfl; have q_0 := Blk.cell (j := 0) bq rfl; have q_1 := Blk.cell (j := 1) bq rfl; have q_f := Blk.frozen bq; clear bu bq))
              go_roundw
              case rel => exact ⟨k + 1, by omega, by simp, HQ⟩
              case measure => simp [intOf]; omega
    · obtain rfl : k = n := by omega
      obtain ⟨g, cp, rfl⟩ : ∃ g cp, u3 = .slice (some ⟨g, 0, none⟩) (2 * k) cp := by
        obtain ⟨_, h1 | ⟨g, cap, cur, hv, _⟩⟩ := HP.out.own
        · exact absurd h1.1 HP.out.nn
        · exact ⟨g, cap, hv⟩
      have HE : Hid (pcode G k = 0 ∧ PAns G k w (.slice (some ⟨g, 0, none⟩) (2 * k) cp) ((wr.setCell ⟨w.heap.size, 0, none⟩ (.int .i64 0)).setCell ⟨w.heap.size, 1, none⟩ (.slice (some ⟨g, 0, none⟩) (2 * k) cp)) ∧ Below w.heap.size w wr) := ⟨(HP.out.fin (a := .int .i64 0) (b := .slice (some ⟨g, 0, none⟩) (2 * k) cp) h40).1, (HP.out.fin (a := .int .i64 0) (b := .slice (some ⟨g, 0, none⟩) (2 * k) cp) h40).2, HP.out.below⟩
      have R_0 := HP.out.res.cell (j := 0) rfl
      have R_1 := HP.out.res.cell (j := 1) rfl
      have R_f := HP.out.res.frozen
      clear HP HCC
      go_wp2
      refine bodyPost_ret (v := .agg #[.int .i64 0, .slice (some ⟨g, 0, none⟩) (2 * k) cp]) (by simp [results, Try.results26, go_sem, R_0, R_1] <;> (repeat' (first | rfl | apply And.intro))) rfl ⟨_, by rw [HE.out.1], HE.out.2.1, ?_⟩
      have h := HE.out.2.2
      go_grown
end Go.Proofs.Ytfdgnafakjlhaaa
