/- Lists of dots: the laws' own copies, counts and comparisons; how they are opened. -/
import Derived.Test.YtcmgafgboepllaaOw
import Derived.Test.YtcmgafgboepllaaArgf
import Derived.Handy
import Derived.Deep.RegionHeld3
import Derived.Deep.Matrix
namespace Go.Proofs.Ytcmgafgboepllaa
open Go.ChangeShapes Go.WideShapes Go.ChangeAt Go.RowKit Go.Joins Go.Deep Fl
set_option linter.unusedVariables false
set_option linter.unusedSimpArgs false
abbrev Dv (a : Nat → Nat) : Value := .agg #[.float .f64 (a 0), .float .f64 (a 1)]
structure Dc (a : Nat → Nat) (A : Nat → Option Nat) : Prop where
  h : ∀ j, j < 2 → Fc (a j) (A j)
set_option maxRecDepth 20000 in
theorem toDot_any (a : Nat → Nat) (w : World) : Calls Try.prog 56 #[Dv a] w fun e w' => e = .returned (Dv a) ∧ Below w.heap.size w w' := by
  have hst := st64
  go_enter Try.func56, Try.ntmps56
  go_wp2
  refine bodyPost_ret (v := Dv a) (by simp [results, Try.results56, go_sem]) rfl ⟨rfl, by go_grown⟩
set_option maxRecDepth 20000 in
theorem eqDot_same {a b : Nat → Nat} {A : Nat → Option Nat} (ha : Dc a A) (hb : Dc b A) (w : World) : Calls Try.prog 61 #[Dv a, Dv b] w fun e w' => e = .returned (.bool true) ∧ Below w.heap.size w w' := by
  have H0 : Hid (∀ W, Calls Try.prog 42 #[.float .f64 (a 0), .float .f64 (b 0)] W fun e w' => e = .returned (.bool true) ∧ W = w') := fun W => same_any (ha.h 0 (by omega)).lx (hb.h 0 (by omega)).lx ((ha.h 0 (by omega)).c.trans (hb.h 0 (by omega)).c.symm) W
  have H1 : Hid (∀ W, Calls Try.prog 42 #[.float .f64 (a 1), .float .f64 (b 1)] W fun e w' => e = .returned (.bool true) ∧ W = w') := fun W => same_any (ha.h 1 (by omega)).lx (hb.h 1 (by omega)).lx ((ha.h 1 (by omega)).c.trans (hb.h 1 (by omega)).c.symm) W
  clear ha hb
  go_enter Try.func61, Try.ntmps61
  go_wp2_with fail
  refine (H0.out _).mono ?_
  rintro e w1 ⟨rfl, rfl⟩
  go_wp2_with fail
  refine (H1.out _).mono ?_
  rintro e w1 ⟨rfl, rfl⟩
  go_wp2
  go_ret
  exact ⟨rfl, by go_grown⟩
/-- A cell of a row of floats. -/
def fcl (g : Nat → Nat) (j : Nat) : Value := .float .f64 (g j)
def zfl : Nat → Nat := fun _ => 0
theorem infoDo : (Try.prog.info? 78).map (fun i => (i.zero, i.size, i.bytes)) = some (some (.agg #[.float .f64 0, .float .f64 0]), 2, 16) := by kernel_rfl
theorem makeDo (n : Nat) (hn : n ≤ 1000000000) (w : World) : (Instr.makeSlice 28 (.int .i64 (n : Int)) (.int .i64 (n : Int))).run Try.prog w = .ok (.slice (some ⟨w.heap.size, 0, none⟩) n n) (w.alloc (.cells (madeCells #[.float .f64 0, .float .f64 0] (n * 2)) 78)) := by
  obtain ⟨i, hi, hzz⟩ := Option.map_eq_some_iff.1 infoDo
  simp only [Prod.mk.injEq] at hzz
  obtain ⟨hz, hs, hb⟩ := hzz
  have hr := run_make (P := Try.prog) w 28 78 i _ Try.underlying28 hi hz .i64 .i64 n n (by omega) (Int.le_refl _) (by rw [hb]; omega) (by omega)
  rw [hs] at hr
  simpa [Value.cells] using hr
theorem segmadeDo (w : World) (n : Nat) : SegV (w.alloc (.cells (madeCells #[.float .f64 0, .float .f64 0] (n * 2)) 78)) w.heap.size 78 n 2 (fun _ j => fcl zfl j) := by
  refine ⟨madeCells #[.float .f64 0, .float .f64 0] (n * 2), by show (w.heap.push _)[w.heap.size]? = _; simp, fun i hi j hj => ?_⟩
  rw [made_cell (idx_lt hj hi)]
  have e : (i * 2 + j) % 2 = j := by omega
  simp only [List.size_toArray, List.length_cons, List.length_nil, Nat.zero_add, Nat.reduceAdd, e]
  match j, hj with
  | 0, _ => rfl
  | 1, _ => rfl
set_option maxRecDepth 20000 in
set_option maxHeartbeats 3200000 in
theorem toDos_some (b off n cap : Nat) (G : Nat → (Nat → Nat)) (w : World) (hn : n ≤ 1000000000) (hc : ∀ i, i < n → ∀ j, j < 2 → w.cell? ⟨b, off + i * 2 + j, none⟩ = some (fcl (G i) j)) :
    Calls Try.prog 12 #[.slice (some ⟨b, off, none⟩) n cap] w fun e w' => e = .returned (.slice (some ⟨w.heap.size, 0, none⟩) n n) ∧ SegV w' w.heap.size 78 n 2 (fun i j => fcl (G i) j) ∧ Below w.heap.size w w' := by
  have hmk := makeDo n hn
  have hst := st64
  have later : ∀ (wr : World) (p : Addr) {v : Value}, w.cell? p = some v → Below w.heap.size w wr → wr.cell? p = some v := fun wr p v h hb => (hb.cell (World.block_lt_of_cell? _ _ h)).trans h
  go_enter Try.func12, Try.ntmps12
  go_wp2_with fail
  clear hmk
  go_loopw [4] (fun i wr => ∃ k : Nat, k ≤ n ∧ i = .int .i64 k ∧ SegV wr w.heap.size 78 n 2 (fun i j => if i < k then fcl (G i) j else fcl zfl j) ∧ Below w.heap.size w wr) (fun i _ => n - (intOf i).toNat)
  case atStart => exact ⟨0, Nat.zero_le _, rfl, (segmadeDo w n).congr (fun i _ j _ => by simp), (Below.refl _ _).alloc (Nat.le_refl _) _⟩
  case round =>
    obtain ⟨k, hk, rfl, hs, hb⟩ := hrel
    by_cases hkn : k < n
    · have HS : Hid (SegV wr w.heap.size 78 n 2 (fun i j => if i < k then fcl (G i) j else fcl zfl j) ∧ Below w.heap.size w wr) := ⟨hs, hb⟩
      have g0 : wr.cell? ⟨b, off + k * 2, none⟩ = some (.float .f64 ((G k) 0)) := later _ _ (hc k hkn 0 (by omega)) hb
      have g1 : wr.cell? ⟨b, off + k * 2 + 1, none⟩ = some (.float .f64 ((G k) 1)) := later _ _ (hc k hkn 1 (by omega)) hb
      clear hs hb hc later
      go_wp2_with fail
      refine (toDot_any (G k) _).mono ?_
      rintro e w1 ⟨rfl, hb1⟩
      obtain ⟨hs, hb⟩ := HS.out
      have e0 : w1.cell? ⟨w.heap.size, k * 2, none⟩ = some (.float .f64 0) := by have := (hs.below hb1).cell hkn (show 0 < 2 by omega); simpa [fcl, zfl] using this
      have e1 : w1.cell? ⟨w.heap.size, k * 2 + 1, none⟩ = some (.float .f64 0) := by have := (hs.below hb1).cell hkn (show 1 < 2 by omega); simpa [fcl, zfl] using this
      have ef : ∀ j, w1.frozen? ⟨w.heap.size, j, none⟩ = false := fun j => (hs.below hb1).frozen j
      have HB : Hid (Below wr.heap.size wr w1) := hb1
      clear hs hb hb1 g0 g1
      go_wp2
      go_roundw
      case rel =>
        obtain ⟨hs, hb⟩ := HS.out
        have hb1 := HB.out
        have t0 := SegV.set (hs.below hb1) hkn (show 0 < 2 by omega) (.float .f64 ((G k) 0))
        have t1 := SegV.set t0 hkn (show 1 < 2 by omega) (.float .f64 ((G k) 1))
        refine ⟨k + 1, by omega, by simp, (t1.congr fun i hi j hj => ?_), (((box_step hb hb1 (Nat.le_refl _)).setCell (Nat.le_refl _) _).setCell (Nat.le_refl _) _)⟩
        by_cases e : i = k
        · subst e
          match j, hj with
          | 0, _ => simp [fcl]
          | 1, _ => simp [fcl]
        · by_cases e2 : i < k
          · simp [e, e2, Nat.lt_succ_of_lt e2]
          · have : ¬ i < k + 1 := by omega
            simp [e, e2, this]
      case measure => simp [intOf]; omega
    · obtain rfl : k = n := by omega
      clear hc later
      go_wp2
      go_ret
      exact ⟨rfl, hs.congr fun i hi j hj => by simp [hi], hb⟩
set_option maxHeartbeats 800000 in
theorem toDos_none (ao : Option Addr) (cap : Nat) (G : Nat → (Nat → Nat)) (w : World) :
    Calls Try.prog 12 #[.slice ao 0 cap] w fun e w' => e = .returned (.slice (some ⟨w.heap.size, 0, none⟩) 0 0) ∧ SegV w' w.heap.size 78 0 2 (fun i j => fcl (G i) j) ∧ Below w.heap.size w w' := by
  have hmk := makeDo 0 (by omega)
  rw [show ((0 : Nat) : Int) = 0 from rfl] at hmk
  have hS := segmadeDo w 0
  have hB : Below w.heap.size w (w.alloc (.cells (madeCells #[.float .f64 0, .float .f64 0] (0 * 2)) 78)) := (Below.refl _ _).alloc (Nat.le_refl _) _
  go_enter Try.func12, Try.ntmps12
  go_wp2_with fail
  refine wp_loop_rounds 1 ?_
  rw [rounds_succ]
  go_wp2
  go_ret
  exact ⟨rfl, hS.congr fun i hi => absurd hi (Nat.not_lt_zero _), hB⟩
theorem toDos_any {w : World} {v : Value} {n : Nat} {G : Nat → (Nat → Nat)} (h : RdV w v n 2 (fun i j => fcl (G i) j)) (hn : n ≤ 1000000000) :
    Calls Try.prog 12 #[v] w fun e w' => e = .returned (.slice (some ⟨w.heap.size, 0, none⟩) n n) ∧ SegV w' w.heap.size 78 n 2 (fun i j => fcl (G i) j) ∧ Below w.heap.size w w' := by
  rcases h with ⟨ao, cap, rfl, rfl⟩ | ⟨b, off, cap, rfl, hc⟩
  · exact toDos_none ao cap G w
  · exact toDos_some b off n cap G w hn hc
theorem szDos_any (ao : Option Addr) (n cap : Nat) (w : World) (hn : n ≤ 9223372036854775807) : Calls Try.prog 10 #[.slice ao n cap, .int .i64 1048576] w fun e w' => e = .returned (.int .i64 (if 1048576 < n then -1 else 1048576 - n)) ∧ w = w' := by
  by_cases h : 1048576 < n
  · rw [if_pos h]
    go_enter Try.func10, Try.ntmps10
    go_wp2
    go_ret
    exact ⟨rfl, rfl⟩
  · rw [if_neg h]
    go_enter Try.func10, Try.ntmps10
    go_wp2
    go_ret
    exact ⟨rfl, rfl⟩
set_option maxRecDepth 20000 in
set_option maxHeartbeats 3200000 in
theorem eqDos_same (b cap b' cap' n : Nat) (F G : Nat → Nat → Nat) (A : Nat → Nat → Option Nat) (w : World) (hn : n ≤ 1000000000000) (hs : SegV w b 78 n 2 (fun i j => fcl (F i) j)) (ht : SegV w b' 78 n 2 (fun i j => fcl (G i) j)) (hF : ∀ i, i < n → Dc (F i) (A i)) (hG : ∀ i, i < n → Dc (G i) (A i)) :
    Calls Try.prog 15 #[.slice (some ⟨b, 0, none⟩) n cap, .slice (some ⟨b', 0, none⟩) n cap'] w fun e w' => e = .returned (.bool true) ∧ Below w.heap.size w w' := by
  have later : ∀ (wr : World) (p : Addr) {v : Value}, w.cell? p = some v → Below w.heap.size w wr → wr.cell? p = some v := fun wr p v h hb => (hb.cell (World.block_lt_of_cell? _ _ h)).trans h
  have HE : Hid (∀ k, k < n → ∀ W, Calls Try.prog 61 #[.agg #[.float .f64 (F k 0), .float .f64 (F k 1)], .agg #[.float .f64 (G k 0), .float .f64 (G k 1)]] W fun e w' => e = .returned (.bool true) ∧ Below W.heap.size W w') := fun k hk W => eqDot_same (hF k hk) (hG k hk) W
  clear hF hG
  go_enter Try.func15, Try.ntmps15
  go_wp2_with fail
  go_loopw [5] (fun i wr => ∃ k : Nat, k ≤ n ∧ i = .int .i64 k ∧ Below w.heap.size w wr) (fun i _ => n - (intOf i).toNat)
  case atStart => exact ⟨0, Nat.zero_le _, rfl, Below.refl _ _⟩
  case round =>
    obtain ⟨k, hk, rfl, hb⟩ := hrel
    by_cases hkn : k < n
    · have p0 : ∀ W, Below w.heap.size w W → W.cell? ⟨b, k * 2, none⟩ = some (.float .f64 (F k 0)) := fun W h => later W _ (hs.cell hkn (show 0 < 2 by omega)) h
      have q0 : ∀ W, Below w.heap.size w W → W.cell? ⟨b', k * 2, none⟩ = some (.float .f64 (G k 0)) := fun W h => later W _ (ht.cell hkn (show 0 < 2 by omega)) h
      have p1 : ∀ W, Below w.heap.size w W → W.cell? ⟨b, k * 2 + 1, none⟩ = some (.float .f64 (F k 1)) := fun W h => later W _ (hs.cell hkn (show 1 < 2 by omega)) h
      have q1 : ∀ W, Below w.heap.size w W → W.cell? ⟨b', k * 2 + 1, none⟩ = some (.float .f64 (G k 1)) := fun W h => later W _ (ht.cell hkn (show 1 < 2 by omega)) h
      have HE2 : Hid (∀ W, Calls Try.prog 61 #[.agg #[.float .f64 (F k 0), .float .f64 (F k 1)], .agg #[.float .f64 (G k 0), .float .f64 (G k 1)]] W fun e w' => e = .returned (.bool true) ∧ Below W.heap.size W w') := HE.out k hkn
      clear hs ht later HE
      go_wp2_with fail
      go_region_held (fun W => Below w.heap.size w W) (first | assumption | exact Below.drew ‹_›)
        (first | (go_at_call 61; refine (HE2.out _).mono ?_; rintro e w1 ⟨rfl, hb1⟩; have hR1 := box_step ‹_› hb1 (Nat.le_refl _)))
      have HB : Hid (Below w.heap.size w w1) := hR1
      clear hR1 hb1 p0 q0 p1 q1
      go_wp2
      go_roundw
      case rel => exact ⟨k + 1, by omega, by simp, HB.out⟩
      case measure => simp [intOf]; omega
    · obtain rfl : k = n := by omega
      clear hs ht later
      go_wp2
      go_ret
      exact ⟨rfl, hb⟩
set_option maxHeartbeats 800000 in
theorem eqDos_none (ao ao' : Option Addr) (cap cap' : Nat) (w : World) : Calls Try.prog 15 #[.slice ao 0 cap, .slice ao' 0 cap'] w fun e w' => e = .returned (.bool true) ∧ Below w.heap.size w w' := by
  go_enter Try.func15, Try.ntmps15
  go_wp2_with fail
  refine wp_loop_rounds 1 ?_
  rw [rounds_succ]
  go_wp2
  go_ret
  exact ⟨rfl, Below.refl _ _⟩
theorem add_plain (b o i : Nat) : (⟨b, o, none⟩ : Addr).add i = ⟨b, o + i, none⟩ := by
  unfold Addr.add
  split
  · rename_i h; subst h; rfl
  · simp
/-- A row of values out of what is known of each. -/
theorem rdv_of {W : World} {a : Addr} {len cap m : Nat} (h0 : 0 < len) (hm : 0 < m) {α : Type} (dflt : α) (f : α → Nat → Value) (Q : α → Prop) (each : ∀ i, i < len → ∃ g : α, Q g ∧ ∀ j, j < m → W.cell? ((a.add (i * m)).add j) = some (f g j)) :
    ∃ G : Nat → α, RdV W (.slice (some a) len cap) len m (fun i j => f (G i) j) ∧ ∀ i, i < len → Q (G i) := by
  obtain ⟨b, o, spot⟩ := a
  have hspot : spot = none := by
    obtain ⟨g, _, h1⟩ := each 0 h0
    simpa [Addr.add] using World.cell?_spot (h1 0 hm)
  subst hspot
  have each' : ∀ i, i < len → ∃ g : α, Q g ∧ ∀ j, j < m → W.cell? ⟨b, o + i * m + j, none⟩ = some (f g j) := fun i hi => by
    obtain ⟨g, h1, h2⟩ := each i hi
    refine ⟨g, h1, fun j hj => ?_⟩
    have := h2 j hj
    rw [add_plain, add_plain] at this
    exact this
  refine ⟨fun i => if hi : i < len then (each' i hi).choose else dflt, Or.inr ⟨b, o, cap, rfl, fun i hi j hj => ?_⟩, fun i hi => ?_⟩
  · have := (each' i hi).choose_spec.2 j hj
    simp only [hi, dif_pos]
    exact this
  · have := (each' i hi).choose_spec.1
    simp only [hi, dif_pos]
    exact this

set_option maxRecDepth 100000 in
theorem cells82 : Try.prog.cellsOf 82 = 2 := by kernel_rfl
set_option maxRecDepth 100000 in
theorem trod_dot {H : Type} {enc : TypeId × Value → H} {W : World} {base : Nat} {spare : Nat → Bool} {held : Bool} {fuel : Nat} {c0 c1 : Value} {x : DataW H × List MemPlace}
    (h : DataW.trod enc Try.prog W base spare held fuel 82 [c0, c1] = some x) : ∃ g : Nat → Nat, (∀ j, j < 2 → g j < 18446744073709551616) ∧ c0 = fcl g 0 ∧ c1 = fcl g 1 := by
  obtain ⟨y0, y1, n, _, _, h0, h1⟩ := trod_struct2 Try.underlying82 h
  simp [cells24] at h0 h1
  obtain ⟨a, e0, wa⟩ := trod_float Try.underlying24 h0
  obtain ⟨b, e1, wb⟩ := trod_float Try.underlying24 h1
  simp at e0 e1
  refine ⟨fun j => if j = 0 then a else b, fun j hj => ?_, by rw [e0]; rfl, by rw [e1]; rfl⟩
  match j, hj with
  | 0, _ => exact f64_lt wa
  | 1, _ => exact f64_lt wb
set_option maxRecDepth 100000 in
theorem open_dots {H : Type} {enc : TypeId × Value → H} {W : World} {base : Nat} {v : Value} {d : DataW H} {p : List MemPlace} (hv : Value.okWide Try.prog W .any base 22 v)
    (h : DataW.Trod enc Try.prog W 0 (fun _ => true) true 22 v d p) : ∃ (n : Nat) (G : Nat → Nat → Nat), RdV W v n 2 (fun i j => fcl (G i) j) ∧ n ≤ 9223372036854775807 ∧ ∀ i, i < n → ∀ j, j < 2 → G i j < 18446744073709551616 := by
  obtain ⟨fuel, hf⟩ := h
  obtain ⟨a0, len0, cap0, rfl⟩ := okWide_slice Try.underlying22 hv
  rcases DataW.trod_slice Try.underlying22 hf with ⟨hcs0, _⟩ | ⟨a, len, cap, elems, rest, n, _, hcs0, _, _, hl, hm, hlen, hel, _, _⟩
  · simp [Value.cells] at hcs0
    obtain ⟨rfl, rfl, rfl⟩ := hcs0
    exact ⟨0, fun _ => zfl, Or.inl ⟨_, _, rfl, rfl⟩, by omega, fun i hi => by omega⟩
  simp [Value.cells] at hcs0
  obtain ⟨rfl, rfl, rfl⟩ := hcs0
  rw [maxLen_eq] at hm
  by_cases h0 : len0 = 0
  · subst h0
    exact ⟨0, fun _ => zfl, Or.inl ⟨_, _, rfl, rfl⟩, by omega, fun i hi => by omega⟩
  obtain ⟨G, h1, h2⟩ := rdv_of (W := W) (a := a) (len := len0) (cap := cap0) (m := 2) (by omega) (by omega) zfl fcl (fun g => ∀ j, j < 2 → g j < 18446744073709551616) (by
    intro i hi
    have h1 := hel i hi
    rw [cells82] at h1
    obtain ⟨y, hy⟩ : ∃ y, elems[i]? = some y := ⟨elems[i]'(by omega), List.getElem?_eq_getElem (by omega)⟩
    rw [hy, Option.bind_eq_some_iff] at h1
    obtain ⟨cs', hcs, hy'⟩ := h1
    obtain ⟨_, hcl, hce⟩ := World.cells?_some hcs
    match cs', hcl with
    | [c0, c1], _ =>
      obtain ⟨g, hg, e0, e1⟩ := trod_dot hy'
      refine ⟨g, hg, fun j hj => ?_⟩
      have e := hce j hj
      rw [e0, e1] at e
      match j, hj with
      | 0, _ => exact e
      | 1, _ => exact e)
  exact ⟨len0, G, h1, by omega, h2⟩
end Go.Proofs.Ytcmgafgboepllaa
