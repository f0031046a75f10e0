/- The laws' own copies, counts and comparisons of films and stacks: contracts. -/
import Derived.Test.YtnpcldgacdgplaaOpn
import Derived.Test.YtnpcldgacdgplaaKeeps
import Derived.Test.YtnpcldgacdgplaaOwn2
import Derived.Handy
import Derived.Deep.RegionHeld3
namespace Go.Proofs.Ytnpcldgacdgplaa
open Go.RowKit Fl
set_option linter.unusedVariables false
set_option linter.unusedSimpArgs false
set_option maxHeartbeats 800000 in
theorem toF_any (a b : Nat) (t : Int) (w : World) : Calls Try.prog 65 #[.agg #[.float .f64 a, .float .f64 b, .int .i64 t]] w fun e w' => e = .returned (.agg #[.float .f64 a, .float .f64 b, .int .i64 t]) ∧ Below w.heap.size w w' := by
  have hst := st64
  go_enter Try.func65, Try.ntmps65
  go_wp2
  refine bodyPost_ret (v := .agg #[.float .f64 a, .float .f64 b, .int .i64 t]) (by simp [results, Try.results65, go_sem]) rfl ⟨rfl, ?_⟩
  go_grown
theorem info60 : (Try.prog.info? 60).map (fun i => (i.zero, i.size, i.bytes)) = some (some (.agg #[.float .f64 0, .float .f64 0, .int .i64 0]), 3, 24) := by kernel_rfl
theorem make60 (n : Nat) (hn : n ≤ 1000000000000) (w : World) : (Instr.makeSlice 28 (.int .i64 (n : Int)) (.int .i64 (n : Int))).run Try.prog w = .ok (.slice (some ⟨w.heap.size, 0, none⟩) n n) (w.alloc (.cells (madeCells #[.float .f64 0, .float .f64 0, .int .i64 0] (n * 3)) 60)) := by
  obtain ⟨i, hi, hzz⟩ := Option.map_eq_some_iff.1 info60
  simp only [Prod.mk.injEq] at hzz
  obtain ⟨hz, hs, hb⟩ := hzz
  have hr := run_make (P := Try.prog) w 28 60 i _ Try.underlying28 hi hz .i64 .i64 n n (by omega) (Int.le_refl _) (by rw [hb]; omega) (by omega)
  rw [hs] at hr
  simpa [Value.cells] using hr
def zfilm : Fi := ⟨0, 0, 0⟩
theorem seg_made60 (w : World) (n : Nat) : SegV (w.alloc (.cells (madeCells #[.float .f64 0, .float .f64 0, .int .i64 0] (n * 3)) 60)) w.heap.size 60 n 3 (fun _ j => fcell zfilm j) := by
  refine ⟨madeCells #[.float .f64 0, .float .f64 0, .int .i64 0] (n * 3), by show (w.heap.push _)[w.heap.size]? = _; simp, fun i hi j hj => ?_⟩
  rw [made_cell (idx_lt hj hi)]
  have e : (i * 3 + j) % 3 = j := by omega
  simp only [List.size_toArray, List.length_cons, List.length_nil, Nat.zero_add, Nat.reduceAdd, e]
  match j, hj with
  | 0, _ => rfl
  | 1, _ => rfl
  | 2, _ => rfl
set_option maxHeartbeats 1600000 in
theorem toFs_some (b off n cap : Nat) (G : Nat → Fi) (w : World) (hn : n ≤ 1000000000000) (hc : ∀ i, i < n → ∀ j, j < 3 → w.cell? ⟨b, off + i * 3 + j, none⟩ = some (fcell (G i) j)) :
    Calls Try.prog 31 #[.slice (some ⟨b, off, none⟩) n cap] w fun e w' => e = .returned (.slice (some ⟨w.heap.size, 0, none⟩) n n) ∧ SegV w' w.heap.size 60 n 3 (fun i j => fcell (G i) j) ∧ Below w.heap.size w w' := by
  have hmk := make60 n hn
  have later : ∀ (wr : World) (p : Addr) {v : Value}, w.cell? p = some v → Below w.heap.size w wr → wr.cell? p = some v := fun wr p v h hb => (hb.cell (World.block_lt_of_cell? _ _ h)).trans h
  go_enter Try.func31, Try.ntmps31
  go_wp2_with fail
  clear hmk
  go_loopw [4] (fun i wr => ∃ k : Nat, k ≤ n ∧ i = .int .i64 k ∧ SegV wr w.heap.size 60 n 3 (fun i j => if i < k then fcell (G i) j else fcell zfilm j) ∧ Below w.heap.size w wr) (fun i _ => n - (intOf i).toNat)
  case atStart => exact ⟨0, Nat.zero_le _, rfl, (seg_made60 w n).congr (fun i _ j _ => by simp), (Below.refl _ _).alloc (Nat.le_refl _) _⟩
  case round =>
    obtain ⟨k, hk, rfl, hs, hb⟩ := hrel
    by_cases hkn : k < n
    · have HS : Hid (SegV wr w.heap.size 60 n 3 (fun i j => if i < k then fcell (G i) j else fcell zfilm j) ∧ Below w.heap.size w wr) := ⟨hs, hb⟩
      have g0 : wr.cell? ⟨b, off + k * 3, none⟩ = some (.float .f64 (G k).i) := later _ _ (hc k hkn 0 (by omega)) hb
      have g1 : wr.cell? ⟨b, off + k * 3 + 1, none⟩ = some (.float .f64 (G k).k) := later _ _ (hc k hkn 1 (by omega)) hb
      have g2 : wr.cell? ⟨b, off + k * 3 + 2, none⟩ = some (.int .i64 (G k).t) := later _ _ (hc k hkn 2 (by omega)) hb
      clear hs hb hc later
      have hst := st64
      go_wp2_with fail
      refine (toF_any _ _ _ _).mono ?_
      rintro e w1 ⟨rfl, hb1⟩
      obtain ⟨hs, hb⟩ := HS.out
      have e0 : w1.cell? ⟨w.heap.size, k * 3, none⟩ = some (.float .f64 0) := by have := (hs.below hb1).cell hkn (show 0 < 3 by omega); simpa [fcell, zfilm] using this
      have e1 : w1.cell? ⟨w.heap.size, k * 3 + 1, none⟩ = some (.float .f64 0) := by have := (hs.below hb1).cell hkn (show 1 < 3 by omega); simpa [fcell, zfilm] using this
      have e2 : w1.cell? ⟨w.heap.size, k * 3 + 2, none⟩ = some (.int .i64 0) := by have := (hs.below hb1).cell hkn (show 2 < 3 by omega); simpa [fcell, zfilm] using this
      have ef : ∀ j, w1.frozen? ⟨w.heap.size, j, none⟩ = false := fun j => (hs.below hb1).frozen j
      have HB : Hid (Below wr.heap.size wr w1) := hb1
      clear hs hb hb1 g0 g1 g2
      go_wp2
      go_roundw
      case rel =>
        obtain ⟨hs, hb⟩ := HS.out
        have hb1 := HB.out
        have t0 := SegV.set (hs.below hb1) hkn (show 0 < 3 by omega) (.float .f64 (G k).i)
        have t1 := SegV.set (t0) hkn (show 1 < 3 by omega) (.float .f64 (G k).k)
        have t2 := SegV.set (t1) hkn (show 2 < 3 by omega) (.int .i64 (G k).t)
        refine ⟨k + 1, by omega, by simp, (t2.congr fun i hi j hj => ?_), ((((box_step hb hb1 (Nat.le_refl _)).setCell (Nat.le_refl _) _).setCell (Nat.le_refl _) _).setCell (Nat.le_refl _) _)⟩
        by_cases e : i = k
        · subst e
          match j, hj with
          | 0, _ => simp [fcell]
          | 1, _ => simp [fcell]
          | 2, _ => simp [fcell]
        · by_cases e2 : i < k
          · simp [e, e2, Nat.lt_succ_of_lt e2]
          · have : ¬ i < k + 1 := by omega
            simp [e, e2, this]
      case measure => simp [intOf]; omega
    · obtain rfl : k = n := by omega
      clear hc later
      go_wp2
      go_ret
      exact ⟨rfl, hs.congr fun i hi j hj => by simp [hi], hb⟩
set_option maxHeartbeats 800000 in
theorem toFs_none (ao : Option Addr) (cap : Nat) (G : Nat → Fi) (w : World) :
    Calls Try.prog 31 #[.slice ao 0 cap] w fun e w' => e = .returned (.slice (some ⟨w.heap.size, 0, none⟩) 0 0) ∧ SegV w' w.heap.size 60 0 3 (fun i j => fcell (G i) j) ∧ Below w.heap.size w w' := by
  have hmk := make60 0 (by omega)
  rw [show ((0 : Nat) : Int) = 0 from rfl] at hmk
  have hS := seg_made60 w 0
  have hB : Below w.heap.size w (w.alloc (.cells (madeCells #[.float .f64 0, .float .f64 0, .int .i64 0] (0 * 3)) 60)) := (Below.refl _ _).alloc (Nat.le_refl _) _
  go_enter Try.func31, Try.ntmps31
  go_wp2_with fail
  refine wp_loop_rounds 1 ?_
  rw [rounds_succ]
  go_wp2
  go_ret
  exact ⟨rfl, hS.congr fun i hi => absurd hi (Nat.not_lt_zero _), hB⟩
theorem toFs_any {w : World} {v : Value} {n : Nat} {G : Nat → Fi} (h : RdV w v n 3 (fun i j => fcell (G i) j)) (hn : n ≤ 1000000000000) :
    Calls Try.prog 31 #[v] w fun e w' => e = .returned (.slice (some ⟨w.heap.size, 0, none⟩) n n) ∧ SegV w' w.heap.size 60 n 3 (fun i j => fcell (G i) j) ∧ Below w.heap.size w w' := by
  rcases h with ⟨ao, cap, rfl, rfl⟩ | ⟨b, off, cap, rfl, hc⟩
  · exact toFs_none ao cap G w
  · exact toFs_some b off n cap G w hn hc
theorem SegV.setOther {w : World} {b c o : Nat} {t : TypeId} {n m : Nat} {f : Nat → Nat → Value} (h : SegV w b t n m f) (hne : b ≠ c) (x : Value) : SegV (w.setCell ⟨c, o, none⟩ x) b t n m f :=
  h.of_block (Below.heap_setCell _ _ _ _ (by simpa using hne))
set_option maxHeartbeats 1600000 in
theorem toSt_any {a o : Nat} {v : Value} {n : Nat} {G : Nat → Fi} {w : World} (h : RdV w v n 3 (fun i j => fcell (G i) j)) (hn : n ≤ 1000000000000) :
    Calls Try.prog 11 #[Sv a o v] w fun e w' => ∃ b, e = .returned (Sv a o (.slice (some ⟨b, 0, none⟩) n n)) ∧ SegV w' b 60 n 3 (fun i j => fcell (G i) j) ∧ w.heap.size ≤ b ∧ b < w'.heap.size ∧ Below w.heap.size w w' := by
  have hst := st64
  obtain ⟨ao, cap, rfl⟩ := h.form
  have H : Hid (RdV w (.slice ao n cap) n 3 (fun i j => fcell (G i) j)) := h
  clear h
  go_enter Try.func11, Try.ntmps11
  go_wp2_with fail
  refine (toFs_any (H.out.later ?_) hn).mono ?_
  · go_grown
  rintro e w1 ⟨rfl, hs, hb⟩
  obtain ⟨o1, o2, o3⟩ := olds hb
  have HS : Hid (SegV w1 _ 60 n 3 (fun i j => fcell (G i) j) ∧ Below _ _ w1) := ⟨hs, hb⟩
  clear hs hb
  simp at o1 o2 o3 HS
  go_wp2
  refine bodyPost_ret (v := Sv a o (.slice (some ⟨w.heap.size + 1 + 1 + 1, 0, none⟩) n n)) (by simp [results, Try.results11, go_sem, o1]) rfl ⟨_, rfl, ?_, by omega, ?_, ?_⟩
  · repeat (first | with_reducible exact HS.out.1 | (refine SegV.setOther ?_ (by show w.heap.size + 1 + 1 + 1 ≠ _; simp <;> omega) _))
  · have := HS.out.1.lt
    simpa using this
  · have hB : Below w.heap.size w w1 := Below.trans (by go_grown) (HS.out.2.mono (by omega))
    repeat (first | with_reducible exact hB | (refine Below.setCell ?_ (by simp <;> omega) _))
theorem szF_any (ao : Option Addr) (n cap : Nat) (w : World) (hn : n ≤ 9223372036854775807) : Calls Try.prog 29 #[.slice ao n cap, .int .i64 1048576] w fun e w' => e = .returned (.int .i64 (if 1048576 < n then -1 else 1048576 - n)) ∧ w = w' := by
  by_cases h : 1048576 < n
  · rw [if_pos h]
    go_enter Try.func29, Try.ntmps29
    go_wp2
    go_ret
    exact ⟨rfl, rfl⟩
  · rw [if_neg h]
    go_enter Try.func29, Try.ntmps29
    go_wp2
    go_ret
    exact ⟨rfl, rfl⟩
def szOf (n : Nat) : Int := if 1048576 < n then -1 else 1048576 - n
theorem szSt_any (a o : Nat) (ao : Option Addr) (n cap : Nat) (w : World) (hn : n ≤ 9223372036854775807) : Calls Try.prog 9 #[Sv a o (.slice ao n cap), .int .i64 1048576] w fun e w' => e = .returned (.int .i64 (szOf n)) ∧ Below w.heap.size w w' := by
  have H : Hid (∀ w, Calls Try.prog 29 #[.slice ao n cap, .int .i64 1048576] w fun e w' => e = .returned (.int .i64 (if 1048576 < n then -1 else 1048576 - n)) ∧ w = w') := fun w => szF_any ao n cap w hn
  unfold szOf
  by_cases h : 1048576 < n
  · rw [if_pos h] at H ⊢
    go_enter Try.func9, Try.ntmps9
    go_wp2_with (go_at_call 29; refine (H.out _).mono ?_; rintro e w' ⟨rfl, rfl⟩)
    go_ret
    refine ⟨rfl, ?_⟩
    go_grown
  · rw [if_neg h] at H ⊢
    have h2 : ¬ ((1048576 : Int) - n < 0) := by omega
    go_enter Try.func9, Try.ntmps9
    go_wp2_with (go_at_call 29; refine (H.out _).mono ?_; rintro e w' ⟨rfl, rfl⟩)
    go_ret
    refine ⟨rfl, ?_⟩
    go_grown
set_option maxHeartbeats 1600000 in
theorem eqF_same {g : Fi} (ok : FiOk g) (w : World) : Calls Try.prog 68 #[Fv g, Fv g] w fun e w' => e = .returned (.bool true) ∧ Below w.heap.size w w' := by
  obtain ⟨a, b, t⟩ := g
  have H1 : Hid (∀ w, Calls Try.prog 35 #[.float .f64 a, .float .f64 a] w fun e w' => e = .returned (.bool true) ∧ w = w') := same_any ok.hi ok.hi rfl
  have H2 : Hid (∀ w, Calls Try.prog 35 #[.float .f64 b, .float .f64 b] w fun e w' => e = .returned (.bool true) ∧ w = w') := same_any ok.hk ok.hk rfl
  clear ok
  go_enter Try.func68, Try.ntmps68
  go_wp2_with fail
  refine (H1.out _).mono ?_
  rintro e w1 ⟨rfl, rfl⟩
  go_wp2_with fail
  refine (H2.out _).mono ?_
  rintro e w1 ⟨rfl, rfl⟩
  go_wp2
  go_ret
  refine ⟨rfl, ?_⟩
  go_grown
set_option maxHeartbeats 1600000 in
theorem eqFs_same (b cap b' cap' n : Nat) (G : Nat → Fi) (w : World) (hn : n ≤ 1000000000000) (hs : SegV w b 60 n 3 (fun i j => fcell (G i) j)) (ht : SegV w b' 60 n 3 (fun i j => fcell (G i) j)) (hf : ∀ i, i < n → FiOk (G i)) :
    Calls Try.prog 36 #[.slice (some ⟨b, 0, none⟩) n cap, .slice (some ⟨b', 0, none⟩) n cap'] w fun e w' => e = .returned (.bool true) ∧ Below w.heap.size w w' := by
  have later : ∀ (wr : World) (p : Addr) {v : Value}, w.cell? p = some v → Below w.heap.size w wr → wr.cell? p = some v := fun wr p v h hb => (hb.cell (World.block_lt_of_cell? _ _ h)).trans h
  have HF : Hid (∀ i, i < n → FiOk (G i)) := hf
  clear hf
  go_enter Try.func36, Try.ntmps36
  go_wp2_with fail
  go_loopw [5] (fun i wr => ∃ k : Nat, k ≤ n ∧ i = .int .i64 k ∧ Below w.heap.size w wr) (fun i _ => n - (intOf i).toNat)
  case atStart => exact ⟨0, Nat.zero_le _, rfl, Below.refl _ _⟩
  case round =>
    obtain ⟨k, hk, rfl, hb⟩ := hrel
    by_cases hkn : k < n
    · have HZ := HF.out k hkn
      have p0 : ∀ W, Below w.heap.size w W → W.cell? ⟨b, k * 3, none⟩ = some (.float .f64 (G k).i) := fun W h => later W _ (hs.cell hkn (show 0 < 3 by omega)) h
      have q0 : ∀ W, Below w.heap.size w W → W.cell? ⟨b', k * 3, none⟩ = some (.float .f64 (G k).i) := fun W h => later W _ (ht.cell hkn (show 0 < 3 by omega)) h
      have p1 : ∀ W, Below w.heap.size w W → W.cell? ⟨b, k * 3 + 1, none⟩ = some (.float .f64 (G k).k) := fun W h => later W _ (hs.cell hkn (show 1 < 3 by omega)) h
      have q1 : ∀ W, Below w.heap.size w W → W.cell? ⟨b', k * 3 + 1, none⟩ = some (.float .f64 (G k).k) := fun W h => later W _ (ht.cell hkn (show 1 < 3 by omega)) h
      have p2 : ∀ W, Below w.heap.size w W → W.cell? ⟨b, k * 3 + 2, none⟩ = some (.int .i64 (G k).t) := fun W h => later W _ (hs.cell hkn (show 2 < 3 by omega)) h
      have q2 : ∀ W, Below w.heap.size w W → W.cell? ⟨b', k * 3 + 2, none⟩ = some (.int .i64 (G k).t) := fun W h => later W _ (ht.cell hkn (show 2 < 3 by omega)) h
      clear hs ht later HF
      go_wp2_with fail
      go_region_held (fun W => Below w.heap.size w W) (first | assumption | exact Below.drew ‹_›)
        (first | (go_at_call 68; refine (eqF_same HZ _).mono ?_; rintro e w1 ⟨rfl, hb1⟩; have hR1 := box_step ‹_› hb1 (Nat.le_refl _)))
      have HB : Hid (Below w.heap.size w w1) := hR1
      clear hR1 hb1 p0 q0 p1 q1 p2 q2
      go_wp2
      go_roundw
      case rel => exact ⟨k + 1, by omega, by simp, HB.out⟩
      case measure => simp [intOf]; omega
    · obtain rfl : k = n := by omega
      clear hs ht later HF
      go_wp2
      go_ret
      exact ⟨rfl, hb⟩
set_option maxHeartbeats 1600000 in
theorem eqSt_same {a o : Nat} (ha : a < 18446744073709551616) (ho : o < 18446744073709551616) (b cap b' cap' n : Nat) (G : Nat → Fi) (w : World) (hn : n ≤ 1000000000000) (hs : SegV w b 60 n 3 (fun i j => fcell (G i) j)) (ht : SegV w b' 60 n 3 (fun i j => fcell (G i) j)) (hf : ∀ i, i < n → FiOk (G i)) :
    Calls Try.prog 13 #[Sv a o (.slice (some ⟨b, 0, none⟩) n cap), Sv a o (.slice (some ⟨b', 0, none⟩) n cap')] w fun e w' => e = .returned (.bool true) ∧ Below w.heap.size w w' := by
  have H1 : Hid (∀ w, Calls Try.prog 35 #[.float .f64 a, .float .f64 a] w fun e w' => e = .returned (.bool true) ∧ w = w') := same_any ha ha rfl
  have H2 : Hid (∀ w, Calls Try.prog 35 #[.float .f64 o, .float .f64 o] w fun e w' => e = .returned (.bool true) ∧ w = w') := same_any ho ho rfl
  have H3 : Hid (∀ W, Below w.heap.size w W → Calls Try.prog 36 #[.slice (some ⟨b, 0, none⟩) n cap, .slice (some ⟨b', 0, none⟩) n cap'] W fun e w' => e = .returned (.bool true) ∧ Below W.heap.size W w') := fun W h => eqFs_same b cap b' cap' n G W hn (hs.below h) (ht.below h) hf
  clear ha ho hs ht hf hn
  go_enter Try.func13, Try.ntmps13
  go_wp2_with fail
  refine (H1.out _).mono ?_
  rintro e w1 ⟨rfl, rfl⟩
  go_wp2_with fail
  refine (H2.out _).mono ?_
  rintro e w1 ⟨rfl, rfl⟩
  go_wp2_with fail
  refine (H3.out _ ?_).mono ?_
  · go_grown
  rintro e w1 ⟨rfl, b1⟩
  have A1 : Hid (Below w.heap.size w w1) := Below.trans (by go_grown) (b1.mono (by simp <;> omega))
  clear b1
  go_wp2
  go_ret
  exact ⟨rfl, A1.out⟩
end Go.Proofs.Ytnpcldgacdgplaa
