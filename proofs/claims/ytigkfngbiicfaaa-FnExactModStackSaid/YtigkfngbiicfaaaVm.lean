/- Lists of plates: the laws' own copies, counts and comparisons; how they are opened. -/
import Derived.Test.YtigkfngbiicfaaaPl
import Derived.Test.YtigkfngbiicfaaaArgrow
import Derived.Deep.RegionHeld3
import Derived.Deep.Matrix
import Derived.Handy
namespace Go.Proofs.Ytigkfngbiicfaaa
open Go.ChangeShapes Go.WideShapes Go.ChangeAt Go.RowKit Go.Joins Go.Deep
set_option linter.unusedVariables false
set_option linter.unusedSimpArgs false
theorem idx_inj {m i j k l : Nat} (hj : j < m) (hl : l < m) (h : i * m + j = k * m + l) : i = k ∧ j = l := by
  have e1 : (i * m + j) / m = i := by rw [Nat.mul_comm, Nat.mul_add_div (by omega), Nat.div_eq_of_lt hj]; omega
  have e2 : (k * m + l) / m = k := by rw [Nat.mul_comm, Nat.mul_add_div (by omega), Nat.div_eq_of_lt hl]; omega
  rw [h, e2] at e1
  subst e1
  exact ⟨rfl, by omega⟩
theorem idx_lt {m i j n : Nat} (hj : j < m) (hi : i < n) : i * m + j < n * m := by
  have := Nat.mul_le_mul_right m (show i + 1 ≤ n by omega)
  rw [Nat.add_mul] at this
  omega
theorem made_cell {z : Array Value} {N k : Nat} (hk : k < N) : (madeCells z N)[k]? = some z[k % z.size]! := by
  unfold madeCells
  rw [Array.getElem?_map, Array.getElem?_range]
  simp [hk]
/-- v is a slice of n values of m cells, to be read. -/
def RdV (w : World) (v : Value) (n m : Nat) (f : Nat → Nat → Value) : Prop :=
  (∃ ao cap, v = .slice ao 0 cap ∧ n = 0) ∨ ∃ b off cap, v = .slice (some ⟨b, off, none⟩) n cap ∧ ∀ i, i < n → ∀ j, j < m → w.cell? ⟨b, off + i * m + j, none⟩ = some (f i j)
theorem RdV.later {w w' : World} {v : Value} {n m : Nat} {f : Nat → Nat → Value} (h : RdV w v n m f) (hb : Below w.heap.size w w') : RdV w' v n m f := by
  rcases h with h | ⟨b, off, cap, rfl, h⟩
  · exact Or.inl h
  · exact Or.inr ⟨b, off, cap, rfl, fun i hi j hj => (hb.cell (World.block_lt_of_cell? _ _ (h i hi j hj))).trans (h i hi j hj)⟩
theorem RdV.form {w : World} {v : Value} {n m : Nat} {f : Nat → Nat → Value} (h : RdV w v n m f) : ∃ ao cap, v = .slice ao n cap := by
  rcases h with ⟨ao, cap, rfl, rfl⟩ | ⟨b, off, cap, rfl, _⟩
  · exact ⟨ao, cap, rfl⟩
  · exact ⟨_, cap, rfl⟩
/-- Block b is a row of n values of m cells, none frozen. -/
def SegV (w : World) (b : Nat) (t : TypeId) (n m : Nat) (f : Nat → Nat → Value) : Prop :=
  ∃ c : Array Value, w.heap[b]? = some (.cells c t (0, 0)) ∧ ∀ i, i < n → ∀ j, j < m → c[i * m + j]? = some (f i j)
namespace SegV
variable {w : World} {b : Nat} {t : TypeId} {n m : Nat} {f g : Nat → Nat → Value}
theorem cell (h : SegV w b t n m f) {i j : Nat} (hi : i < n) (hj : j < m) : w.cell? ⟨b, i * m + j, none⟩ = some (f i j) := by
  obtain ⟨c, hb, hc⟩ := h
  simp [World.cell?, hb, hc i hi j hj]
theorem frozen (h : SegV w b t n m f) (i : Nat) : w.frozen? ⟨b, i, none⟩ = false := by
  obtain ⟨c, hb, _⟩ := h
  simp [World.frozen?, hb]
theorem lt (h : SegV w b t n m f) : b < w.heap.size := by
  obtain ⟨c, hb, _⟩ := h
  exact (Array.getElem?_eq_some_iff.1 hb).1
theorem congr (h : SegV w b t n m f) (e : ∀ i, i < n → ∀ j, j < m → f i j = g i j) : SegV w b t n m g := by
  obtain ⟨c, hb, hc⟩ := h
  exact ⟨c, hb, fun i hi j hj => by rw [hc i hi j hj, e i hi j hj]⟩
theorem of_block {w' : World} (h : SegV w b t n m f) (e : w'.heap[b]? = w.heap[b]?) : SegV w' b t n m f := by
  obtain ⟨c, hb, hc⟩ := h
  exact ⟨c, e.trans hb, hc⟩
theorem below {w' : World} (h : SegV w b t n m f) (hb : Below w.heap.size w w') : SegV w' b t n m f := h.of_block (hb.block _ h.lt)
theorem set (h : SegV w b t n m f) {k l : Nat} (hk : k < n) (hl : l < m) (x : Value) : SegV (w.setCell ⟨b, k * m + l, none⟩ x) b t n m (fun i j => if i = k ∧ j = l then x else f i j) := by
  obtain ⟨c, hb, hc⟩ := h
  refine ⟨c.setIfInBounds (k * m + l) x, ?_, fun i hi j hj => ?_⟩
  · simp [World.setCell, Array.getElem?_modify, hb]
  · have hs : k * m + l < c.size := (Array.getElem?_eq_some_iff.1 (hc k hk l hl)).1
    rw [Array.getElem?_setIfInBounds]
    by_cases e : i = k ∧ j = l
    · obtain ⟨rfl, rfl⟩ := e
      simp [hs]
    · rw [if_neg (fun h => e (by have := idx_inj hl hj h; exact ⟨this.1.symm, this.2.symm⟩))]
      simp only [e, if_false]
      exact hc i hi j hj
end SegV
theorem SegV.rd {w : World} {b : Nat} {t : TypeId} {n m cap : Nat} {f : Nat → Nat → Value} (h : SegV w b t n m f) : RdV w (.slice (some ⟨b, 0, none⟩) n cap) n m f :=
  Or.inr ⟨b, 0, cap, rfl, fun i hi j hj => by rw [Nat.zero_add]; exact h.cell hi hj⟩
theorem SegV.keep {w w' : World} {b B : Nat} {t : TypeId} {n m : Nat} {f : Nat → Nat → Value} (h : SegV w b t n m f) (k : Below B w w') (hb : b < B) : SegV w' b t n m f := h.of_block (k.block _ hb)
theorem RdV.keep {w w' : World} {v : Value} {B n m : Nat} {f : Nat → Nat → Value} (h : RdV w v n m f) (k : Below B w w') (hv : ∀ b off cap, v = .slice (some ⟨b, off, none⟩) n cap → b < B) : RdV w' v n m f := by
  rcases h with h | ⟨b, off, cap, rfl, h⟩
  · exact Or.inl h
  · exact Or.inr ⟨b, off, cap, rfl, fun i hi j hj => (k.cell (hv b off cap rfl)).trans (h i hi j hj)⟩
theorem SegV.setOther {w : World} {b c o : Nat} {t : TypeId} {n m : Nat} {f : Nat → Nat → Value} (h : SegV w b t n m f) (hne : b ≠ c) (x : Value) : SegV (w.setCell ⟨c, o, none⟩ x) b t n m f :=
  h.of_block (Below.heap_setCell _ _ _ _ (by simpa using hne))

abbrev Mv (a : Nat → Int) : Value := .agg #[.int .i64 (a 0), .int .i64 (a 1), .int .i64 (a 2), .int .i64 (a 3)]
def icl (g : Nat → Int) (j : Nat) : Value := .int .i64 (g j)
def zil : Nat → Int := fun _ => 0
set_option maxRecDepth 20000 in
theorem toPlate_any (a : Nat → Int) (w : World) : Calls Try.prog 33 #[Mv a] w fun e w' => e = .returned (Mv a) ∧ Below w.heap.size w w' := by
  go_enter Try.func33, Try.ntmps33
  go_wp2
  refine bodyPost_ret (v := Mv a) (by simp [results, Try.results33, go_sem]) rfl ⟨rfl, by go_grown⟩
theorem eqPlate_one (a : Nat → Int) (w : World) : Calls Try.prog 26 #[Mv a, Mv a] w fun e w' => e = .returned (.bool true) ∧ Below w.heap.size w w' := eqPlate_same _ _ _ _ w
theorem infoMp : (Try.prog.info? 34).map (fun i => (i.zero, i.size, i.bytes)) = some (some (.agg #[.int .i64 0, .int .i64 0, .int .i64 0, .int .i64 0]), 4, 32) := by kernel_rfl
theorem makeMp (n : Nat) (hn : n ≤ 1000000000) (w : World) : (Instr.makeSlice 41 (.int .i64 (n : Int)) (.int .i64 (n : Int))).run Try.prog w = .ok (.slice (some ⟨w.heap.size, 0, none⟩) n n) (w.alloc (.cells (madeCells #[.int .i64 0, .int .i64 0, .int .i64 0, .int .i64 0] (n * 4)) 34)) := by
  obtain ⟨i, hi, hzz⟩ := Option.map_eq_some_iff.1 infoMp
  simp only [Prod.mk.injEq] at hzz
  obtain ⟨hz, hs, hb⟩ := hzz
  have hr := run_make (P := Try.prog) w 41 34 i _ Try.underlying41 hi hz .i64 .i64 n n (by omega) (Int.le_refl _) (by rw [hb]; omega) (by omega)
  rw [hs] at hr
  simpa [Value.cells] using hr
theorem segmadeMp (w : World) (n : Nat) : SegV (w.alloc (.cells (madeCells #[.int .i64 0, .int .i64 0, .int .i64 0, .int .i64 0] (n * 4)) 34)) w.heap.size 34 n 4 (fun _ j => icl zil j) := by
  refine ⟨madeCells #[.int .i64 0, .int .i64 0, .int .i64 0, .int .i64 0] (n * 4), by show (w.heap.push _)[w.heap.size]? = _; simp, fun i hi j hj => ?_⟩
  rw [made_cell (idx_lt hj hi)]
  have e : (i * 4 + j) % 4 = j := by omega
  simp only [List.size_toArray, List.length_cons, List.length_nil, Nat.zero_add, Nat.reduceAdd, e]
  match j, hj with
  | 0, _ => rfl
  | 1, _ => rfl
  | 2, _ => rfl
  | 3, _ => rfl
set_option maxRecDepth 20000 in
set_option maxHeartbeats 3200000 in
theorem toMps_some (b off n cap : Nat) (G : Nat → (Nat → Int)) (w : World) (hn : n ≤ 1000000000) (hc : ∀ i, i < n → ∀ j, j < 4 → w.cell? ⟨b, off + i * 4 + j, none⟩ = some (icl (G i) j)) :
    Calls Try.prog 29 #[.slice (some ⟨b, off, none⟩) n cap] w fun e w' => e = .returned (.slice (some ⟨w.heap.size, 0, none⟩) n n) ∧ SegV w' w.heap.size 34 n 4 (fun i j => icl (G i) j) ∧ Below w.heap.size w w' := by
  have hmk := makeMp n hn
  have later : ∀ (wr : World) (p : Addr) {v : Value}, w.cell? p = some v → Below w.heap.size w wr → wr.cell? p = some v := fun wr p v h hb => (hb.cell (World.block_lt_of_cell? _ _ h)).trans h
  go_enter Try.func29, Try.ntmps29
  go_wp2_with fail
  clear hmk
  go_loopw [4] (fun i wr => ∃ k : Nat, k ≤ n ∧ i = .int .i64 k ∧ SegV wr w.heap.size 34 n 4 (fun i j => if i < k then icl (G i) j else icl zil j) ∧ Below w.heap.size w wr) (fun i _ => n - (intOf i).toNat)
  case atStart => exact ⟨0, Nat.zero_le _, rfl, (segmadeMp w n).congr (fun i _ j _ => by simp), (Below.refl _ _).alloc (Nat.le_refl _) _⟩
  case round =>
    obtain ⟨k, hk, rfl, hs, hb⟩ := hrel
    by_cases hkn : k < n
    · have HS : Hid (SegV wr w.heap.size 34 n 4 (fun i j => if i < k then icl (G i) j else icl zil j) ∧ Below w.heap.size w wr) := ⟨hs, hb⟩
      have g0 : wr.cell? ⟨b, off + k * 4, none⟩ = some (.int .i64 ((G k) 0)) := later _ _ (hc k hkn 0 (by omega)) hb
      have g1 : wr.cell? ⟨b, off + k * 4 + 1, none⟩ = some (.int .i64 ((G k) 1)) := later _ _ (hc k hkn 1 (by omega)) hb
      have g2 : wr.cell? ⟨b, off + k * 4 + 2, none⟩ = some (.int .i64 ((G k) 2)) := later _ _ (hc k hkn 2 (by omega)) hb
      have g3 : wr.cell? ⟨b, off + k * 4 + 3, none⟩ = some (.int .i64 ((G k) 3)) := later _ _ (hc k hkn 3 (by omega)) hb
      clear hs hb hc later
      go_wp2_with fail
      refine (toPlate_any (G k) _).mono ?_
      rintro e w1 ⟨rfl, hb1⟩
      obtain ⟨hs, hb⟩ := HS.out
      have e0 : w1.cell? ⟨w.heap.size, k * 4, none⟩ = some (.int .i64 0) := by have := (hs.below hb1).cell hkn (show 0 < 4 by omega); simpa [icl, zil] using this
      have e1 : w1.cell? ⟨w.heap.size, k * 4 + 1, none⟩ = some (.int .i64 0) := by have := (hs.below hb1).cell hkn (show 1 < 4 by omega); simpa [icl, zil] using this
      have e2 : w1.cell? ⟨w.heap.size, k * 4 + 2, none⟩ = some (.int .i64 0) := by have := (hs.below hb1).cell hkn (show 2 < 4 by omega); simpa [icl, zil] using this
      have e3 : w1.cell? ⟨w.heap.size, k * 4 + 3, none⟩ = some (.int .i64 0) := by have := (hs.below hb1).cell hkn (show 3 < 4 by omega); simpa [icl, zil] using this
      have ef : ∀ j, w1.frozen? ⟨w.heap.size, j, none⟩ = false := fun j => (hs.below hb1).frozen j
      have HB : Hid (Below wr.heap.size wr w1) := hb1
      clear hs hb hb1 g0 g1 g2 g3
      go_wp2
      go_roundw
      case rel =>
        obtain ⟨hs, hb⟩ := HS.out
        have hb1 := HB.out
        have t0 := SegV.set (hs.below hb1) hkn (show 0 < 4 by omega) (.int .i64 ((G k) 0))
        have t1 := SegV.set t0 hkn (show 1 < 4 by omega) (.int .i64 ((G k) 1))
        have t2 := SegV.set t1 hkn (show 2 < 4 by omega) (.int .i64 ((G k) 2))
        have t3 := SegV.set t2 hkn (show 3 < 4 by omega) (.int .i64 ((G k) 3))
        refine ⟨k + 1, by omega, by simp, (t3.congr fun i hi j hj => ?_), (((((hb.trans (hb1.mono hb.size)).setCell (Nat.le_refl _) _).setCell (Nat.le_refl _) _).setCell (Nat.le_refl _) _).setCell (Nat.le_refl _) _)⟩
        by_cases e : i = k
        · subst e
          match j, hj with
          | 0, _ => simp [icl]
          | 1, _ => simp [icl]
          | 2, _ => simp [icl]
          | 3, _ => simp [icl]
        · by_cases e2 : i < k
          · simp [e, e2, Nat.lt_succ_of_lt e2]
          · have : ¬ i < k + 1 := by omega
            simp [e, e2, this]
      case measure => simp [intOf]; omega
    · obtain rfl : k = n := by omega
      clear hc later
      go_wp2
      go_ret
      exact ⟨rfl, hs.congr fun i hi j hj => by simp [hi], hb⟩
set_option maxHeartbeats 800000 in
theorem toMps_none (ao : Option Addr) (cap : Nat) (G : Nat → (Nat → Int)) (w : World) :
    Calls Try.prog 29 #[.slice ao 0 cap] w fun e w' => e = .returned (.slice (some ⟨w.heap.size, 0, none⟩) 0 0) ∧ SegV w' w.heap.size 34 0 4 (fun i j => icl (G i) j) ∧ Below w.heap.size w w' := by
  have hmk := makeMp 0 (by omega)
  rw [show ((0 : Nat) : Int) = 0 from rfl] at hmk
  have hS := segmadeMp w 0
  have hB : Below w.heap.size w (w.alloc (.cells (madeCells #[.int .i64 0, .int .i64 0, .int .i64 0, .int .i64 0] (0 * 4)) 34)) := (Below.refl _ _).alloc (Nat.le_refl _) _
  go_enter Try.func29, Try.ntmps29
  go_wp2_with fail
  refine wp_loop_rounds 1 ?_
  rw [rounds_succ]
  go_wp2
  go_ret
  exact ⟨rfl, hS.congr fun i hi => absurd hi (Nat.not_lt_zero _), hB⟩
theorem toMps_any {w : World} {v : Value} {n : Nat} {G : Nat → (Nat → Int)} (h : RdV w v n 4 (fun i j => icl (G i) j)) (hn : n ≤ 1000000000) :
    Calls Try.prog 29 #[v] w fun e w' => e = .returned (.slice (some ⟨w.heap.size, 0, none⟩) n n) ∧ SegV w' w.heap.size 34 n 4 (fun i j => icl (G i) j) ∧ Below w.heap.size w w' := by
  rcases h with ⟨ao, cap, rfl, rfl⟩ | ⟨b, off, cap, rfl, hc⟩
  · exact toMps_none ao cap G w
  · exact toMps_some b off n cap G w hn hc
theorem szMps_any (ao : Option Addr) (n cap : Nat) (w : World) (hn : n ≤ 9223372036854775807) : Calls Try.prog 27 #[.slice ao n cap, .int .i64 1048576] w fun e w' => e = .returned (.int .i64 (if 1048576 < n then -1 else 1048576 - n)) ∧ w = w' := by
  by_cases h : 1048576 < n
  · rw [if_pos h]
    go_enter Try.func27, Try.ntmps27
    go_wp2
    go_ret
    exact ⟨rfl, rfl⟩
  · rw [if_neg h]
    go_enter Try.func27, Try.ntmps27
    go_wp2
    go_ret
    exact ⟨rfl, rfl⟩
set_option maxRecDepth 20000 in
set_option maxHeartbeats 3200000 in
theorem eqMps_same (b cap b' cap' n : Nat) (F : Nat → Nat → Int) (w : World) (hn : n ≤ 1000000000000) (hs : SegV w b 34 n 4 (fun i j => icl (F i) j)) (ht : SegV w b' 34 n 4 (fun i j => icl (F i) j)) :
    Calls Try.prog 31 #[.slice (some ⟨b, 0, none⟩) n cap, .slice (some ⟨b', 0, none⟩) n cap'] w fun e w' => e = .returned (.bool true) ∧ Below w.heap.size w w' := by
  have later : ∀ (wr : World) (p : Addr) {v : Value}, w.cell? p = some v → Below w.heap.size w wr → wr.cell? p = some v := fun wr p v h hb => (hb.cell (World.block_lt_of_cell? _ _ h)).trans h
  go_enter Try.func31, Try.ntmps31
  go_wp2_with fail
  go_loopw [5] (fun i wr => ∃ k : Nat, k ≤ n ∧ i = .int .i64 k ∧ Below w.heap.size w wr) (fun i _ => n - (intOf i).toNat)
  case atStart => exact ⟨0, Nat.zero_le _, rfl, Below.refl _ _⟩
  case round =>
    obtain ⟨k, hk, rfl, hb⟩ := hrel
    by_cases hkn : k < n
    · have p0 : ∀ W, Below w.heap.size w W → W.cell? ⟨b, k * 4, none⟩ = some (.int .i64 (F k 0)) := fun W h => later W _ (hs.cell hkn (show 0 < 4 by omega)) h
      have q0 : ∀ W, Below w.heap.size w W → W.cell? ⟨b', k * 4, none⟩ = some (.int .i64 (F k 0)) := fun W h => later W _ (ht.cell hkn (show 0 < 4 by omega)) h
      have p1 : ∀ W, Below w.heap.size w W → W.cell? ⟨b, k * 4 + 1, none⟩ = some (.int .i64 (F k 1)) := fun W h => later W _ (hs.cell hkn (show 1 < 4 by omega)) h
      have q1 : ∀ W, Below w.heap.size w W → W.cell? ⟨b', k * 4 + 1, none⟩ = some (.int .i64 (F k 1)) := fun W h => later W _ (ht.cell hkn (show 1 < 4 by omega)) h
      have p2 : ∀ W, Below w.heap.size w W → W.cell? ⟨b, k * 4 + 2, none⟩ = some (.int .i64 (F k 2)) := fun W h => later W _ (hs.cell hkn (show 2 < 4 by omega)) h
      have q2 : ∀ W, Below w.heap.size w W → W.cell? ⟨b', k * 4 + 2, none⟩ = some (.int .i64 (F k 2)) := fun W h => later W _ (ht.cell hkn (show 2 < 4 by omega)) h
      have p3 : ∀ W, Below w.heap.size w W → W.cell? ⟨b, k * 4 + 3, none⟩ = some (.int .i64 (F k 3)) := fun W h => later W _ (hs.cell hkn (show 3 < 4 by omega)) h
      have q3 : ∀ W, Below w.heap.size w W → W.cell? ⟨b', k * 4 + 3, none⟩ = some (.int .i64 (F k 3)) := fun W h => later W _ (ht.cell hkn (show 3 < 4 by omega)) h
      clear hs ht later
      go_wp2_with fail
      go_region_held (fun W => Below w.heap.size w W) (first | assumption | exact Below.drew ‹_›)
        (first | (go_at_call 26; refine (eqPlate_one (F k) _).mono ?_; rintro e w1 ⟨rfl, hb1⟩; have hR1 : Below w.heap.size w w1 := (by refine Below.trans (b := _) ?_ (hb1.mono ?_) <;> first | exact hb.drew | exact hb.drew.size)))
      have HB : Hid (Below w.heap.size w w1) := hR1
      clear hR1 hb1 p0 q0 p1 q1 p2 q2 p3 q3
      go_wp2
      go_roundw
      case rel => exact ⟨k + 1, by omega, by simp, HB.out⟩
      case measure => simp [intOf]; omega
    · obtain rfl : k = n := by omega
      clear hs ht later
      go_wp2
      go_ret
      exact ⟨rfl, hb⟩
/-- A row of values out of what is known of each. -/
theorem rdv_of {W : World} {a : Addr} {len cap m : Nat} (h0 : 0 < len) (hm : 0 < m) {α : Type} (dflt : α) (f : α → Nat → Value) (Q : α → Prop) (each : ∀ i, i < len → ∃ g : α, Q g ∧ ∀ j, j < m → W.cell? ((a.add (i * m)).add j) = some (f g j)) :
    ∃ G : Nat → α, RdV W (.slice (some a) len cap) len m (fun i j => f (G i) j) ∧ ∀ i, i < len → Q (G i) := by
  obtain ⟨b, o, spot⟩ := a
  have hspot : spot = none := by
    obtain ⟨g, _, h1⟩ := each 0 h0
    simpa [Addr.add] using World.cell?_spot (h1 0 hm)
  subst hspot
  have each' : ∀ i, i < len → ∃ g : α, Q g ∧ ∀ j, j < m → W.cell? ⟨b, o + i * m + j, none⟩ = some (f g j) := fun i hi => by
    obtain ⟨g, h1, h2⟩ := each i hi
    refine ⟨g, h1, fun j hj => ?_⟩
    have := h2 j hj
    rw [add_plain, add_plain] at this
    exact this
  refine ⟨fun i => if hi : i < len then (each' i hi).choose else dflt, Or.inr ⟨b, o, cap, rfl, fun i hi j hj => ?_⟩, fun i hi => ?_⟩
  · have := (each' i hi).choose_spec.2 j hj
    simp only [hi, dif_pos]
    exact this
  · have := (each' i hi).choose_spec.1
    simp only [hi, dif_pos]
    exact this

theorem cells45 : Try.prog.cellsOf 45 = 4 := by kernel_rfl
set_option maxRecDepth 100000 in
theorem trod_mp {H : Type} {enc : TypeId × Value → H} {W : World} {base : Nat} {spare : Nat → Bool} {held : Bool} {fuel : Nat} {c0 c1 c2 c3 : Value} {x : DataW H × List MemPlace}
    (h : DataW.trod enc Try.prog W base spare held fuel 45 [c0, c1, c2, c3] = some x) : ∃ g : Nat → Int, c0 = icl g 0 ∧ c1 = icl g 1 ∧ c2 = icl g 2 ∧ c3 = icl g 3 := by
  obtain ⟨y0, y1, y2, y3, n, _, _, h0, h1, h2, h3⟩ := trod_struct4 Try.underlying45 h
  simp [cells2] at h0 h1 h2 h3
  obtain ⟨a, e0, _, _⟩ := DataW.trod_int Try.underlying2 h0
  obtain ⟨b, e1, _, _⟩ := DataW.trod_int Try.underlying2 h1
  obtain ⟨c, e2, _, _⟩ := DataW.trod_int Try.underlying2 h2
  obtain ⟨d, e3, _, _⟩ := DataW.trod_int Try.underlying2 h3
  simp at e0 e1 e2 e3
  exact ⟨fun j => if j = 0 then a else if j = 1 then b else if j = 2 then c else d, by rw [e0]; rfl, by rw [e1]; rfl, by rw [e2]; rfl, by rw [e3]; rfl⟩
set_option maxRecDepth 100000 in
theorem open_mps {H : Type} {enc : TypeId × Value → H} {W : World} {base : Nat} {v : Value} {d : DataW H} {p : List MemPlace} (hv : Value.okWide Try.prog W .any base 38 v)
    (h : DataW.Trod enc Try.prog W 0 (fun _ => true) true 38 v d p) : ∃ (n : Nat) (G : Nat → Nat → Int), RdV W v n 4 (fun i j => icl (G i) j) ∧ n ≤ 9223372036854775807 := by
  obtain ⟨fuel, hf⟩ := h
  obtain ⟨a0, len0, cap0, rfl⟩ := okWide_slice Try.underlying38 hv
  rcases DataW.trod_slice Try.underlying38 hf with ⟨hcs0, _⟩ | ⟨a, len, cap, elems, rest, n, _, hcs0, _, _, hl, hm, hlen, hel, _, _⟩
  · simp [Value.cells] at hcs0
    obtain ⟨rfl, rfl, rfl⟩ := hcs0
    exact ⟨0, fun _ => zil, Or.inl ⟨_, _, rfl, rfl⟩, by omega⟩
  simp [Value.cells] at hcs0
  obtain ⟨rfl, rfl, rfl⟩ := hcs0
  rw [maxLen_eq] at hm
  by_cases h0 : len0 = 0
  · subst h0
    exact ⟨0, fun _ => zil, Or.inl ⟨_, _, rfl, rfl⟩, by omega⟩
  obtain ⟨G, h1, h2⟩ := rdv_of (W := W) (a := a) (len := len0) (cap := cap0) (m := 4) (by omega) (by omega) zil icl (fun _ => True) (by
    intro i hi
    have h1 := hel i hi
    rw [cells45] at h1
    obtain ⟨y, hy⟩ : ∃ y, elems[i]? = some y := ⟨elems[i]'(by omega), List.getElem?_eq_getElem (by omega)⟩
    rw [hy, Option.bind_eq_some_iff] at h1
    obtain ⟨cs', hcs, hy'⟩ := h1
    obtain ⟨_, hcl, hce⟩ := World.cells?_some hcs
    match cs', hcl with
    | [c0, c1, c2, c3], _ =>
      obtain ⟨g, e0, e1, e2, e3⟩ := trod_mp hy'
      refine ⟨g, trivial, fun j hj => ?_⟩
      have e := hce j hj
      rw [e0, e1, e2, e3] at e
      match j, hj with
      | 0, _ => exact e
      | 1, _ => exact e
      | 2, _ => exact e
      | 3, _ => exact e)
  exact ⟨len0, G, h1, by omega⟩
end Go.Proofs.Ytigkfngbiicfaaa
