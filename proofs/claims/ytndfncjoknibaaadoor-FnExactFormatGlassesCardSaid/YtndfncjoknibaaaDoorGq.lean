/- The laws' own copies and comparisons of lists of glasses, and what is found in one: contracts. -/
import Derived.Test.YtndfncjoknibaaaDoorGs
namespace Go.Proofs.YtndfncjoknibaaaDoor
open Go.RowKit Fl
set_option linter.unusedVariables false
theorem made_cell {z : Array Value} {N k : Nat} (hk : k < N) : (madeCells z N)[k]? = some z[k % z.size]! := by
  unfold madeCells
  rw [Array.getElem?_map, Array.getElem?_range]
  simp [hk]
/-- Six cells of an array. -/
structure At6 (c : Array Value) (o : Nat) (g : Gl) (k : Value) : Prop where
  c0 : c[o]? = some (.string g.s)
  c1 : c[o + 1]? = some (.int .i64 g.kd)
  c2 : c[o + 2]? = some (.int .i64 g.lo)
  c3 : c[o + 3]? = some (.int .i64 g.hi)
  c4 : c[o + 4]? = some k
  c5 : c[o + 5]? = some (.float .f64 g.x)
theorem At6.six {w : World} {b o : Nat} {c : Array Value} {t : TypeId} {fr : Nat × Nat} {g : Gl} {k : Value} (h : At6 c o g k) (hb : w.heap[b]? = some (.cells c t fr)) : SixAt w b o g k := by
  have q : ∀ j v, c[j]? = some v → w.cell? ⟨b, j, none⟩ = some v := fun j v hv => by simp [World.cell?, hb, hv]
  exact ⟨q _ _ h.c0, q _ _ h.c1, q _ _ h.c2, q _ _ h.c3, q _ _ h.c4, q _ _ h.c5⟩
def put6 (c : Array Value) (o : Nat) (g : Gl) (k : Value) : Array Value :=
  (((((c.setIfInBounds o (.string g.s)).setIfInBounds (o + 1) (.int .i64 g.kd)).setIfInBounds (o + 2) (.int .i64 g.lo)).setIfInBounds (o + 3) (.int .i64 g.hi)).setIfInBounds (o + 4) k).setIfInBounds (o + 5) (.float .f64 g.x)
theorem put6_size (c : Array Value) (o : Nat) (g : Gl) (k : Value) : (put6 c o g k).size = c.size := by simp [put6]
theorem put6_at {c : Array Value} {o : Nat} {g : Gl} {k : Value} (h : o + 6 ≤ c.size) : At6 (put6 c o g k) o g k := by
  constructor <;> simp [put6, Array.getElem?_setIfInBounds] <;> omega
theorem put6_old {c : Array Value} {o i : Nat} {g : Gl} {k : Value} (h : i < o) : (put6 c o g k)[i]? = c[i]? := by
  simp only [put6, Array.getElem?_setIfInBounds]
  rw [if_neg (by omega), if_neg (by omega), if_neg (by omega), if_neg (by omega), if_neg (by omega), if_neg (by omega)]
theorem At6.old {c : Array Value} {o q : Nat} {g g' : Gl} {k k' : Value} (h : At6 c q g' k') (hq : q + 6 ≤ o) : At6 (put6 c o g k) q g' k' :=
  ⟨(put6_old (by omega)).trans h.c0, (put6_old (by omega)).trans h.c1, (put6_old (by omega)).trans h.c2, (put6_old (by omega)).trans h.c3, (put6_old (by omega)).trans h.c4, (put6_old (by omega)).trans h.c5⟩
/-- A world with six cells written anew. -/
def set6 (w : World) (b o : Nat) (g : Gl) (k : Value) : World :=
  (((((w.setCell ⟨b, o, none⟩ (.string g.s)).setCell ⟨b, o + 1, none⟩ (.int .i64 g.kd)).setCell ⟨b, o + 2, none⟩ (.int .i64 g.lo)).setCell ⟨b, o + 3, none⟩ (.int .i64 g.hi)).setCell ⟨b, o + 4, none⟩ k).setCell ⟨b, o + 5, none⟩ (.float .f64 g.x)
theorem set6_block {w : World} {b o : Nat} {c : Array Value} {t : TypeId} {fr : Nat × Nat} {g : Gl} {k : Value} (h : w.heap[b]? = some (.cells c t fr)) : (set6 w b o g k).heap[b]? = some (.cells (put6 c o g k) t fr) := by
  simp [set6, put6, World.setCell, Array.getElem?_modify, h]
theorem set6_other {w : World} {b o q : Nat} {g : Gl} {k : Value} (h : q ≠ b) : (set6 w b o g k).heap[q]? = w.heap[q]? := by
  unfold set6
  repeat rw [Below.heap_setCell _ _ _ _ h]
theorem set6_below {B : Nat} {w W : World} {b o : Nat} {g : Gl} {k : Value} (h : Below B w W) (hb : B ≤ b) : Below B w (set6 W b o g k) := by
  unfold set6
  exact (((((h.setCell hb _).setCell hb _).setCell hb _).setCell hb _).setCell hb _).setCell hb _
/-- A new list of n glasses in block B, k of them laid. -/
structure LayG (B n k : Nat) (G : Nat → Gl) (w0 w : World) : Prop where
  ex : ∃ c : Array Value, w.heap[B]? = some (.cells c 28 (0, 0)) ∧ c.size = n * 6 ∧ ∀ i, i < k → ∃ q, At6 c (i * 6) (G i) (.slice (some ⟨q, 0, none⟩) (G i).n (G i).n) ∧ Seg w q 2 0 (G i).n (fun j => .int .i64 ((G i).f j)) ∧ B < q
  below : Below B w0 w
theorem LayG.rd {B n : Nat} {G : Nat → Gl} {w0 w : World} (h : LayG B n n G w0 w) (cap : Nat) : RdG w (.slice (some ⟨B, 0, none⟩) n cap) n G := by
  obtain ⟨c, hc, _, hk⟩ := h.ex
  refine Or.inr ⟨B, 0, cap, rfl, fun i hi => ?_⟩
  obtain ⟨q, h1, h2, _⟩ := hk i hi
  rw [Nat.zero_add]
  exact ⟨_, h1.six hc, h2.rd⟩
theorem LayG.step {B n k : Nat} {G : Nat → Gl} {w0 w w1 : World} (h : LayG B n k G w0 w) (hk : k < n) (hB : B < w.heap.size) (hb : Below w.heap.size w w1) {q : Nat} (hq : w.heap.size ≤ q) (hs : Seg w1 q 2 0 (G k).n (fun j => .int .i64 ((G k).f j))) :
    LayG B n (k + 1) G w0 (set6 w1 B (k * 6) (G k) (.slice (some ⟨q, 0, none⟩) (G k).n (G k).n)) := by
  obtain ⟨c, hc, hz, hi⟩ := h.ex
  have hc1 : w1.heap[B]? = some (.cells c 28 (0, 0)) := (hb.block B hB).trans hc
  have hsz : k * 6 + 6 ≤ c.size := by rw [hz]; omega
  refine ⟨⟨put6 c (k * 6) (G k) (.slice (some ⟨q, 0, none⟩) (G k).n (G k).n), set6_block hc1, by rw [put6_size]; exact hz, fun i hik => ?_⟩, set6_below (h.below.trans (hb.mono (by omega))) (Nat.le_refl _)⟩
  by_cases e : i = k
  · subst e
    exact ⟨q, put6_at hsz, hs.of_block (set6_other (by omega)), by omega⟩
  · obtain ⟨p, h1, h2, h3⟩ := hi i (by omega)
    exact ⟨p, h1.old (by omega), (h2.of_block (hb.block p h2.lt)).of_block (set6_other (by omega)), h3⟩
theorem info28 : (Tryd.prog.info? 28).map (fun i => (i.zero, i.size, i.bytes)) = some (some (.agg #[.string ⟨#[]⟩, .int .i64 0, .int .i64 0, .int .i64 0, .slice none 0 0, .float .f64 0]), 6, 72) := by kernel_rfl
theorem make28 (n : Nat) (hn : n ≤ 1000000000) (w : World) : (Instr.makeSlice 46 (.int .i64 (n : Int)) (.int .i64 (n : Int))).run Tryd.prog w = .ok (.slice (some ⟨w.heap.size, 0, none⟩) n n) (w.alloc (.cells (madeCells #[.string ⟨#[]⟩, .int .i64 0, .int .i64 0, .int .i64 0, .slice none 0 0, .float .f64 0] (n * 6)) 28)) := by
  obtain ⟨i, hi, hzz⟩ := Option.map_eq_some_iff.1 info28
  simp only [Prod.mk.injEq] at hzz
  obtain ⟨hz, hs, hb⟩ := hzz
  have hr := run_make (P := Tryd.prog) w 46 28 i _ Tryd.underlying46 hi hz .i64 .i64 n n (by omega) (Int.le_refl _) (by rw [hb]; omega) (by omega)
  rw [hs] at hr
  simpa [Value.cells] using hr
theorem lay_start (w : World) (n : Nat) (G : Nat → Gl) : LayG w.heap.size n 0 G w (w.alloc (.cells (madeCells #[.string ⟨#[]⟩, .int .i64 0, .int .i64 0, .int .i64 0, .slice none 0 0, .float .f64 0] (n * 6)) 28)) :=
  ⟨⟨madeCells #[.string ⟨#[]⟩, .int .i64 0, .int .i64 0, .int .i64 0, .slice none 0 0, .float .f64 0] (n * 6), heap_alloc_new _ _, by simp [madeCells], fun i hi => by omega⟩, (Below.refl _ _).alloc (Nat.le_refl _) _⟩
set_option maxHeartbeats 1600000 in
theorem toGS_some (b off n cap : Nat) (G : Nat → Gl) (w : World) (hn : n ≤ 1000000000) (hg : ∀ i, i < n → (G i).n ≤ 1000000000000) (hc : ∀ i, i < n → ∃ k, SixAt w b (off + i * 6) (G i) k ∧ RdRow w k (G i).n (G i).f) :
    Calls Tryd.prog 35 #[.slice (some ⟨b, off, none⟩) n cap] w fun e w' => e = .returned (.slice (some ⟨w.heap.size, 0, none⟩) n n) ∧ LayG w.heap.size n n G w w' := by
  have hmk := make28 n hn
  have HC : Hid (∀ i, i < n → ∃ k, SixAt w b (off + i * 6) (G i) k ∧ RdRow w k (G i).n (G i).f) := hc
  have HG : Hid (∀ i, i < n → (G i).n ≤ 1000000000000) := hg
  clear hc hg
  go_enter Tryd.func35, Tryd.ntmps35
  go_wp2_with fail
  clear hmk
  go_loopw [4] (fun i wr => ∃ k : Nat, k ≤ n ∧ i = .int .i64 k ∧ LayG w.heap.size n k G w wr ∧ w.heap.size < wr.heap.size) (fun i _ => n - (intOf i).toNat)
  case atStart => exact ⟨0, Nat.zero_le _, rfl, lay_start w n G, by simp⟩
  case round =>
    obtain ⟨k, hk, rfl, hl, hsz⟩ := hrel
    by_cases hkn : k < n
    · have HL : Hid (LayG w.heap.size n k G w wr ∧ w.heap.size < wr.heap.size) := ⟨hl, hsz⟩
      obtain ⟨kv, h6, hrow⟩ := HC.out k hkn
      have HR : Hid (RdRow wr kv (G k).n (G k).f) := hrow.later hl.below
      obtain ⟨c0, c1, c2, c3, c4, c5⟩ := h6.later hl.below
      have hok := HG.out k hkn
      clear hl hsz h6 hrow
      have hst := st64
      go_wp2_with (first | (go_at_call 12; refine (toG_any HR.out hok).mono ?_; rintro e w1 ⟨q, rfl, sg, hq, hb1⟩; obtain ⟨cc, hcc, hcz, _⟩ := HL.out.1.ex; have hc1 : w1.heap[w.heap.size]? = some (.cells cc 28 (0, 0)) := ((hb1.block _ HL.out.2).trans hcc); have ef : ∀ j, w1.frozen? ⟨w.heap.size, j, none⟩ = false := (fun j => by simp [World.frozen?, hc1]); have ee : ∀ j, j < n * 6 → ∃ v, w1.cell? ⟨w.heap.size, j, none⟩ = some v := (fun j hj => ⟨cc[j]'(by omega), by simp [World.cell?, hc1, Array.getElem?_eq_getElem (show j < cc.size by omega)]⟩); obtain ⟨v0, e0⟩ := ee (k * 6) (by omega); obtain ⟨v1, e1⟩ := ee (k * 6 + 1) (by omega); obtain ⟨v2, e2⟩ := ee (k * 6 + 2) (by omega); obtain ⟨v3, e3⟩ := ee (k * 6 + 3) (by omega); obtain ⟨v4, e4⟩ := ee (k * 6 + 4) (by omega); obtain ⟨v5, e5⟩ := ee (k * 6 + 5) (by omega); have HS : Hid (LayG w.heap.size n (k + 1) G w (set6 w1 w.heap.size (k * 6) (G k) (.slice (some ⟨q, 0, none⟩) (G k).n (G k).n)) ∧ w.heap.size < w1.heap.size) := ⟨HL.out.1.step hkn HL.out.2 hb1 hq sg, Nat.lt_of_lt_of_le HL.out.2 hb1.size⟩; clear sg hq hb1 hcc hcz hc1 ee c0 c1 c2 c3 c4 c5 HR hok))
      go_roundw
      case rel => exact ⟨k + 1, by omega, by simp, HS.out.1, by simpa [World.setCell] using HS.out.2⟩
      case measure => simp [intOf]; omega
    · obtain rfl : k = n := by omega
      go_wp2
      go_ret
      exact ⟨rfl, hl⟩
set_option maxHeartbeats 800000 in
theorem toGS_none (ao : Option Addr) (cap : Nat) (G : Nat → Gl) (w : World) :
    Calls Tryd.prog 35 #[.slice ao 0 cap] w fun e w' => e = .returned (.slice (some ⟨w.heap.size, 0, none⟩) 0 0) ∧ LayG w.heap.size 0 0 G w w' := by
  have hmk := make28 0 (by omega)
  rw [show ((0 : Nat) : Int) = 0 from rfl] at hmk
  have HL : Hid (LayG w.heap.size 0 0 G w (w.alloc (.cells (madeCells #[.string ⟨#[]⟩, .int .i64 0, .int .i64 0, .int .i64 0, .slice none 0 0, .float .f64 0] (0 * 6)) 28))) := lay_start w 0 G
  go_enter Tryd.func35, Tryd.ntmps35
  go_wp2_with fail
  refine wp_loop_rounds 1 ?_
  rw [rounds_succ]
  go_wp2
  go_ret
  exact ⟨rfl, HL.out⟩
theorem toGS_any {w : World} {v : Value} {n : Nat} {G : Nat → Gl} (h : RdG w v n G) (hn : n ≤ 1000000000) (hg : ∀ i, i < n → (G i).n ≤ 1000000000000) :
    Calls Tryd.prog 35 #[v] w fun e w' => e = .returned (.slice (some ⟨w.heap.size, 0, none⟩) n n) ∧ RdG w' (.slice (some ⟨w.heap.size, 0, none⟩) n n) n G ∧ Below w.heap.size w w' := by
  rcases h with ⟨ao, cap, rfl, rfl⟩ | ⟨b, off, cap, rfl, hc⟩
  · exact (toGS_none ao cap G w).mono fun e w' ⟨h1, h2⟩ => ⟨h1, h2.rd 0, h2.below⟩
  · exact (toGS_some b off n cap G w hn hg hc).mono fun e w' ⟨h1, h2⟩ => ⟨h1, h2.rd n, h2.below⟩
set_option maxHeartbeats 1600000 in
theorem eqGS_some (b off cap b' off' cap' n : Nat) (G : Nat → Gl) (w : World) (hn : n ≤ 1000000000000) (hg : ∀ i, i < n → (G i).n ≤ 1000000000000 ∧ (G i).x < 18446744073709551616)
    (hc : ∀ i, i < n → ∃ k, SixAt w b (off + i * 6) (G i) k ∧ RdRow w k (G i).n (G i).f) (hc' : ∀ i, i < n → ∃ k, SixAt w b' (off' + i * 6) (G i) k ∧ RdRow w k (G i).n (G i).f) :
    Calls Tryd.prog 37 #[.slice (some ⟨b, off, none⟩) n cap, .slice (some ⟨b', off', none⟩) n cap'] w fun e w' => e = .returned (.bool true) ∧ Below w.heap.size w w' := by
  have HC : Hid (∀ i, i < n → ∃ k, SixAt w b (off + i * 6) (G i) k ∧ RdRow w k (G i).n (G i).f) := hc
  have HC' : Hid (∀ i, i < n → ∃ k, SixAt w b' (off' + i * 6) (G i) k ∧ RdRow w k (G i).n (G i).f) := hc'
  have HG : Hid (∀ i, i < n → (G i).n ≤ 1000000000000 ∧ (G i).x < 18446744073709551616) := hg
  clear hc hc' hg
  go_enter Tryd.func37, Tryd.ntmps37
  go_wp2_with fail
  go_loopw [5] (fun i wr => ∃ k : Nat, k ≤ n ∧ i = .int .i64 k ∧ Below w.heap.size w wr) (fun i _ => n - (intOf i).toNat)
  case atStart => exact ⟨0, Nat.zero_le _, rfl, Below.refl _ _⟩
  case round =>
    obtain ⟨k, hk, rfl, hR⟩ := hrel
    by_cases hkn : k < n
    · obtain ⟨kv, h6, hrow⟩ := HC.out k hkn
      obtain ⟨kv', h6', hrow'⟩ := HC'.out k hkn
      have p0 : ∀ W, Below w.heap.size w W → W.cell? ⟨b, off + k * 6, none⟩ = some (.string (G k).s) := fun _ h => (h6.later h).c0
      have p1 : ∀ W, Below w.heap.size w W → W.cell? ⟨b, off + k * 6 + 1, none⟩ = some (.int .i64 (G k).kd) := fun _ h => (h6.later h).c1
      have p2 : ∀ W, Below w.heap.size w W → W.cell? ⟨b, off + k * 6 + 2, none⟩ = some (.int .i64 (G k).lo) := fun _ h => (h6.later h).c2
      have p3 : ∀ W, Below w.heap.size w W → W.cell? ⟨b, off + k * 6 + 3, none⟩ = some (.int .i64 (G k).hi) := fun _ h => (h6.later h).c3
      have p4 : ∀ W, Below w.heap.size w W → W.cell? ⟨b, off + k * 6 + 4, none⟩ = some kv := fun _ h => (h6.later h).c4
      have p5 : ∀ W, Below w.heap.size w W → W.cell? ⟨b, off + k * 6 + 5, none⟩ = some (.float .f64 (G k).x) := fun _ h => (h6.later h).c5
      have q0 : ∀ W, Below w.heap.size w W → W.cell? ⟨b', off' + k * 6, none⟩ = some (.string (G k).s) := fun _ h => (h6'.later h).c0
      have q1 : ∀ W, Below w.heap.size w W → W.cell? ⟨b', off' + k * 6 + 1, none⟩ = some (.int .i64 (G k).kd) := fun _ h => (h6'.later h).c1
      have q2 : ∀ W, Below w.heap.size w W → W.cell? ⟨b', off' + k * 6 + 2, none⟩ = some (.int .i64 (G k).lo) := fun _ h => (h6'.later h).c2
      have q3 : ∀ W, Below w.heap.size w W → W.cell? ⟨b', off' + k * 6 + 3, none⟩ = some (.int .i64 (G k).hi) := fun _ h => (h6'.later h).c3
      have q4 : ∀ W, Below w.heap.size w W → W.cell? ⟨b', off' + k * 6 + 4, none⟩ = some kv' := fun _ h => (h6'.later h).c4
      have q5 : ∀ W, Below w.heap.size w W → W.cell? ⟨b', off' + k * 6 + 5, none⟩ = some (.float .f64 (G k).x) := fun _ h => (h6'.later h).c5
      have HR : Hid (∀ W, Below w.heap.size w W → RdRow W kv (G k).n (G k).f ∧ RdRow W kv' (G k).n (G k).f) := fun W h => ⟨hrow.later h, hrow'.later h⟩
      have hok := HG.out k hkn
      obtain ⟨ok1, ok2⟩ := hok
      clear h6 h6' hrow hrow'
      go_wp2_with fail
      go_region_held (fun W => Below w.heap.size w W) (with_reducible (first | assumption | exact Below.drew ‹_›))
        (first | (go_at_call 14; refine (eqG_any (HR.out _ ?_).1 (HR.out _ ?_).2 ok1 ok2 ok2 rfl).mono ?_; (with_reducible (first | assumption | exact Below.drew ‹_›)); (with_reducible (first | assumption | exact Below.drew ‹_›)); rintro e w1 ⟨rfl, hb1⟩; have hR1 : Below w.heap.size w w1 := (by refine box_step ?_ hb1 (Nat.le_refl _); with_reducible (first | assumption | exact Below.drew ‹_›)); clear hb1))
      all_goals
        have HB : Hid (Below w.heap.size w w1) := hR1
        clear hR1 p0 p1 p2 p3 p4 p5 q0 q1 q2 q3 q4 q5
        go_wp2
        go_roundw
        case rel => exact ⟨k + 1, by omega, by simp, HB.out⟩
        case measure => simp [intOf]; omega
    · obtain rfl : k = n := by omega
      go_wp2
      go_ret
      exact ⟨rfl, hR⟩
theorem eqGS_none (ao ao' : Option Addr) (cap cap' : Nat) (w : World) :
    Calls Tryd.prog 37 #[.slice ao 0 cap, .slice ao' 0 cap'] w fun e w' => e = .returned (.bool true) ∧ Below w.heap.size w w' := by
  go_enter Tryd.func37, Tryd.ntmps37
  go_wp2_with fail
  refine wp_loop_rounds 1 ?_
  rw [rounds_succ]
  go_wp2
  go_ret
  exact ⟨rfl, Below.refl _ _⟩
theorem eqGS_any {w : World} {v v' : Value} {n : Nat} {G : Nat → Gl} (h : RdG w v n G) (h' : RdG w v' n G) (hn : n ≤ 1000000000000) (hg : ∀ i, i < n → (G i).n ≤ 1000000000000 ∧ (G i).x < 18446744073709551616) :
    Calls Tryd.prog 37 #[v, v'] w fun e w' => e = .returned (.bool true) ∧ Below w.heap.size w w' := by
  rcases h with ⟨ao, cap, rfl, rfl⟩ | ⟨b, off, cap, rfl, hc⟩
  · rcases h' with ⟨ao', cap', rfl, _⟩ | ⟨b', off', cap', rfl, hc'⟩
    · exact eqGS_none _ _ _ _ w
    · exact eqGS_none _ _ _ _ w
  · rcases h' with ⟨ao', cap', rfl, rfl⟩ | ⟨b', off', cap', rfl, hc'⟩
    · exact eqGS_none _ _ _ _ w
    · exact eqGS_some b off cap b' off' cap' n G w hn hg hc hc'
end Go.Proofs.YtndfncjoknibaaaDoor
