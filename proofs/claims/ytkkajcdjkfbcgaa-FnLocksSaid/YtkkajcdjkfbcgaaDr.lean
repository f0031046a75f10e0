/- Numbers drawn out of bytes; how bytes that come in are opened. -/
import Derived.Test.YtkkajcdjkfbcgaaOp
import Derived.Test.YtkkajcdjkfbcgaaLb
namespace Go.Proofs.Ytkkajcdjkfbcgaa
open Go.ChangeShapes Go.WideShapes Go.ChangeAt Go.RowKit Go.Joins Go.Deep
set_option linter.unusedVariables false
set_option linter.unusedSimpArgs false
/-- v is a slice of n bytes g. -/
def RdB (w : World) (v : Value) (n : Nat) (g : Nat → Int) : Prop :=
  (∃ ao cap, v = .slice ao 0 cap ∧ n = 0) ∨ ∃ b off cap, v = .slice (some ⟨b, off, none⟩) n cap ∧ ∀ i, i < n → w.cell? ⟨b, off + i, none⟩ = some (.int .u8 (g i))
/-- A source at the block p: its bytes and how far it has come. -/
structure Src (w0 w : World) (v : Value) (a : Int) (p : Nat) : Prop where
  below : Below w0.heap.size w0 w
  new : w0.heap.size ≤ p
  code : w.cell? ⟨p, 0, none⟩ = some v
  here : w.cell? ⟨p, 1, none⟩ = some (.int .i64 a)
  free : w.frozen? ⟨p, 1, none⟩ = false
theorem source_any (ao : Option Addr) (n cap : Nat) (w : World) : Calls Try.prog 53 #[.slice ao n cap] w fun e w' => e = .returned (.pointer (some ⟨w.heap.size, 0, none⟩)) ∧ w' = w.alloc (.cells #[.slice ao n cap, .int .i64 0] 132) := by
  go_enter Try.func53, Try.ntmps53
  go_wp2
  go_ret
  exact ⟨rfl, rfl⟩
theorem src_new (w : World) (v : Value) : Src w (w.alloc (.cells #[v, .int .i64 0] 132)) v 0 w.heap.size :=
  ⟨(Below.refl _ _).alloc (Nat.le_refl _) _, Nat.le_refl _, by go_simp, by go_simp, by go_simp⟩
theorem tmod_fits {x N : Int} (h0 : 0 ≤ x) (h1 : 1 ≤ N) : 0 ≤ x.tmod N ∧ x.tmod N < N := by
  rw [Int.tmod_eq_emod_of_nonneg h0]
  exact ⟨Int.emod_nonneg _ (by omega), Int.emod_lt_of_pos _ (by omega)⟩
set_option maxHeartbeats 1600000 in
theorem next_none (ao : Option Addr) (cap p : Nat) (a N : Int) (w : World) (ha : 0 ≤ a) (ha2 : a ≤ 100000) (hN : 1 ≤ N) (hN2 : N ≤ 4294967296) (hc : w.cell? ⟨p, 0, none⟩ = some (.slice ao 0 cap)) (hh : w.cell? ⟨p, 1, none⟩ = some (.int .i64 a)) (hf : w.frozen? ⟨p, 1, none⟩ = false) :
    Calls Try.prog 54 #[.pointer (some ⟨p, 0, none⟩), .int .i64 N] w fun e w' => ∃ r : Int, e = .returned (.int .i64 r) ∧ 0 ≤ r ∧ r < N ∧ ∃ q, w' = (w.setCell ⟨p, 1, none⟩ (.int .i64 (a + 1))).drewN q := by
  have hr := tmod_fits (x := a * 7) (N := N) (by omega) hN
  obtain ⟨t, ht⟩ : ∃ t, t = (a * 7).tmod N := ⟨_, rfl⟩
  rw [← ht] at hr
  have ht' := ht.symm
  clear ht
  go_enter Try.func54, Try.ntmps54
  go_wp2
  go_ret
  exact ⟨t, rfl, hr.1, hr.2, 0, rfl⟩
theorem rem_nat {a : Int} {n : Nat} (h0 : 0 ≤ a) (hn : 0 < n) : ∃ i : Nat, i < n ∧ a.tmod (n : Int) = (i : Int) := by
  obtain ⟨A, rfl⟩ := Int.eq_ofNat_of_zero_le h0
  exact ⟨A % n, Nat.mod_lt _ hn, by rw [Int.tmod_eq_emod_of_nonneg (by omega)]; simp⟩
theorem quo_nat {a : Int} {n : Nat} (h0 : 0 ≤ a) (hn : 0 < n) : ∃ q : Int, 0 ≤ q ∧ q ≤ a ∧ a.tdiv (n : Int) = q := by
  refine ⟨a.tdiv n, ?_, ?_, rfl⟩
  · rw [Int.tdiv_eq_ediv_of_nonneg h0]; exact Int.ediv_nonneg h0 (by omega)
  · rw [Int.tdiv_eq_ediv_of_nonneg h0]; exact Int.ediv_le_self _ h0
theorem set_other {w : World} {p b o : Nat} {u : Value} {x : Value} (h : w.cell? ⟨b, o, none⟩ = some x) (hb : b ≠ p) : (w.setCell ⟨p, 1, none⟩ u).cell? ⟨b, o, none⟩ = some x := by
  have e := Below.heap_setCell w ⟨p, 1, none⟩ u b hb
  simp only [World.cell?] at h ⊢
  rw [e]
  exact h
set_option maxHeartbeats 1600000 in
theorem next_short (b off n cap p : Nat) (a N x q : Int) (i : Nat) (w : World) (ha : 0 ≤ a) (ha2 : a ≤ 100000) (hN : 1 ≤ N) (hN2 : N ≤ 200) (hn : 0 < n) (hn2 : n ≤ 1000000000000) (hi : i < n) (hr : a.tmod (n : Int) = (i : Int)) (hq : a.tdiv (n : Int) = q) (q0 : 0 ≤ q) (q1 : q ≤ a) (x0 : 0 ≤ x) (x1 : x ≤ 255)
    (hc : w.cell? ⟨p, 0, none⟩ = some (.slice (some ⟨b, off, none⟩) n cap)) (hh : w.cell? ⟨p, 1, none⟩ = some (.int .i64 a)) (hf : w.frozen? ⟨p, 1, none⟩ = false) (hx : w.cell? ⟨b, off + i, none⟩ = some (.int .u8 x)) (hb : b ≠ p) :
    Calls Try.prog 54 #[.pointer (some ⟨p, 0, none⟩), .int .i64 N] w fun e w' => ∃ r : Int, e = .returned (.int .i64 r) ∧ 0 ≤ r ∧ r < N ∧ ∃ q, w' = (w.setCell ⟨p, 1, none⟩ (.int .i64 (a + 1))).drewN q := by
  have ht := tmod_fits (x := x + q * 37) (N := N) (by omega) hN
  obtain ⟨t, ht'⟩ : ∃ t, (x + q * 37).tmod N = t := ⟨_, rfl⟩
  rw [ht'] at ht
  have k1 := set_other (u := .int .i64 (a + 1)) hx hb
  have n0 : ¬ (n : Int) = 0 := by omega
  go_enter Try.func54, Try.ntmps54
  go_wp2
  go_quiet (fail)
  go_wp2
  go_ret
  exact ⟨t, rfl, ht.1, ht.2, nq, rfl⟩
set_option maxHeartbeats 1600000 in
theorem next_long (b off n cap p : Nat) (a N x y q : Int) (i j : Nat) (w : World) (ha : 0 ≤ a) (ha2 : a ≤ 100000) (hN : 200 < N) (hN2 : N ≤ 4294967296) (hn : 0 < n) (hn2 : n ≤ 1000000000000) (hi : i < n) (hj : j < n) (hr : a.tmod (n : Int) = (i : Int)) (hr2 : (a + 1).tmod (n : Int) = (j : Int)) (hq : a.tdiv (n : Int) = q) (q0 : 0 ≤ q) (q1 : q ≤ a) (x0 : 0 ≤ x) (x1 : x ≤ 255) (y0 : 0 ≤ y) (y1 : y ≤ 255)
    (hc : w.cell? ⟨p, 0, none⟩ = some (.slice (some ⟨b, off, none⟩) n cap)) (hh : w.cell? ⟨p, 1, none⟩ = some (.int .i64 a)) (hf : w.frozen? ⟨p, 1, none⟩ = false) (hx : w.cell? ⟨b, off + i, none⟩ = some (.int .u8 x)) (hy : w.cell? ⟨b, off + j, none⟩ = some (.int .u8 y)) (hb : b ≠ p) :
    Calls Try.prog 54 #[.pointer (some ⟨p, 0, none⟩), .int .i64 N] w fun e w' => ∃ r : Int, e = .returned (.int .i64 r) ∧ 0 ≤ r ∧ r < N ∧ ∃ q, w' = (w.setCell ⟨p, 1, none⟩ (.int .i64 (a + 1))).drewN q := by
  have ht := tmod_fits (x := (x + q * 37) * 251 + y * 13 + a) (N := N) (by omega) (by omega)
  obtain ⟨t, ht'⟩ : ∃ t, ((x + q * 37) * 251 + y * 13 + a).tmod N = t := ⟨_, rfl⟩
  rw [ht'] at ht
  have k1 := set_other (u := .int .i64 (a + 1)) hx hb
  have k2 := set_other (u := .int .i64 (a + 1)) hy hb
  have n0 : ¬ (n : Int) = 0 := by omega
  go_enter Try.func54, Try.ntmps54
  go_wp2
  go_quiet (fail)
  go_wp2
  go_quiet (fail)
  go_wp2
  go_ret
  exact ⟨t, rfl, ht.1, ht.2, _, rfl⟩
theorem Src.alloc {w0 w : World} {v : Value} {a : Int} {p : Nat} (h : Src w0 w v a p) (o : Obj) : Src w0 (w.alloc o) v a p := by
  have hp := World.block_lt_of_cell? _ _ h.code
  have hs := h.below.size
  refine ⟨h.below.alloc hs o, h.new, ?_, ?_, ?_⟩
  · rw [← h.code]; simp only [World.cell?]; rw [Below.heap_alloc _ _ _ hp]
  · rw [← h.here]; simp only [World.cell?]; rw [Below.heap_alloc _ _ _ hp]
  · rw [← h.free]; simp only [World.frozen?]; rw [Below.heap_alloc _ _ _ hp]
theorem Src.next {w0 w : World} {v : Value} {a : Int} {p : Nat} (h : Src w0 w v a p) (q : Nat) : Src w0 ((w.setCell ⟨p, 1, none⟩ (.int .i64 (a + 1))).drewN q) v (a + 1) p := by
  refine ⟨below_drewN (h.below.setCell h.new _) _, h.new, ?_, ?_, ?_⟩
  · rw [World.cell?_drewN, World.cell?_setCell_other _ _ _ _ (by intro k; have : 1 = 0 := congrArg Addr.off k; omega)]; exact h.code
  · rw [World.cell?_drewN, World.cell?_setCell_same _ _ _ h.here]
  · have := h.free
    simpa using this
theorem RdB.cells {w0 w : World} {b off n : Nat} {g : Nat → Int} (hb : Below w0.heap.size w0 w) (h : ∀ i, i < n → w0.cell? ⟨b, off + i, none⟩ = some (.int .u8 (g i))) (i : Nat) (hi : i < n) : w.cell? ⟨b, off + i, none⟩ = some (.int .u8 (g i)) :=
  (hb.cell (World.block_lt_of_cell? _ _ (h i hi))).trans (h i hi)
theorem next_any {w0 w : World} {v : Value} {n : Nat} {g : Nat → Int} {a N : Int} {p : Nat} (hS : Src w0 w v a p) (hB : RdB w0 v n g) (hg : ∀ i, i < n → 0 ≤ g i ∧ g i ≤ 255) (hn : n ≤ 1000000000000) (ha : 0 ≤ a) (ha2 : a ≤ 100000) (hN : 1 ≤ N) (hN2 : N ≤ 4294967296) :
    Calls Try.prog 54 #[.pointer (some ⟨p, 0, none⟩), .int .i64 N] w fun e w' => ∃ r : Int, e = .returned (.int .i64 r) ∧ 0 ≤ r ∧ r < N ∧ Src w0 w' v (a + 1) p ∧ ∀ b, b ≠ p → w'.heap[b]? = w.heap[b]? := by
  have fin : ∀ (e : Ending) (w' : World), (∃ r : Int, e = .returned (.int .i64 r) ∧ 0 ≤ r ∧ r < N ∧ ∃ q, w' = (w.setCell ⟨p, 1, none⟩ (.int .i64 (a + 1))).drewN q) → ∃ r : Int, e = .returned (.int .i64 r) ∧ 0 ≤ r ∧ r < N ∧ Src w0 w' v (a + 1) p ∧ ∀ b, b ≠ p → w'.heap[b]? = w.heap[b]? := by
    rintro e w' ⟨r, rfl, h1, h2, q, rfl⟩
    exact ⟨r, rfl, h1, h2, hS.next q, fun b hb => Below.heap_setCell _ _ _ _ hb⟩
  rcases hB with ⟨ao, cap, rfl, rfl⟩ | ⟨b, off, cap, rfl, hc⟩
  · exact (next_none ao cap p a N w ha ha2 hN hN2 hS.code hS.here hS.free).mono fin
  · by_cases h0 : n = 0
    · subst h0
      exact (next_none _ cap p a N w ha ha2 hN hN2 hS.code hS.here hS.free).mono fin
    · obtain ⟨i, hi, hr⟩ := rem_nat (n := n) ha (by omega)
      obtain ⟨q, q0, q1, hq⟩ := quo_nat (n := n) ha (by omega)
      have hx := RdB.cells hS.below hc i hi
      have hb : b ≠ p := by
        have h1 : b < w0.heap.size := World.block_lt_of_cell? _ _ (hc i hi)
        have := hS.new
        omega
      by_cases hs : N ≤ 200
      · exact (next_short b off n cap p a N (g i) q i w ha ha2 hN hs (by omega) hn hi hr hq q0 q1 (hg i hi).1 (hg i hi).2 hS.code hS.here hS.free hx hb).mono fin
      · obtain ⟨j, hj, hr2⟩ := rem_nat (a := a + 1) (n := n) (by omega) (by omega)
        have hy := RdB.cells hS.below hc j hj
        exact (next_long b off n cap p a N (g i) (g j) q i j w ha ha2 (by omega) hN2 (by omega) hn hi hj hr hr2 hq q0 q1 (hg i hi).1 (hg i hi).2 (hg j hj).1 (hg j hj).2 hS.code hS.here hS.free hx hy hb).mono fin
/-- What a source gives next, at whatever world. -/
def Nexts (w0 : World) (v : Value) (p : Nat) : Prop := ∀ (w : World) (a N : Int), Src w0 w v a p → 0 ≤ a → a ≤ 100000 → 1 ≤ N → N ≤ 4294967296 →
  Calls Try.prog 54 #[.pointer (some ⟨p, 0, none⟩), .int .i64 N] w fun e w' => ∃ r : Int, e = .returned (.int .i64 r) ∧ 0 ≤ r ∧ r < N ∧ Src w0 w' v (a + 1) p ∧ ∀ b, b ≠ p → w'.heap[b]? = w.heap[b]?
theorem big_any (ao : Option Addr) (n cap : Nat) (w : World) : Calls Try.prog 13 #[.slice ao n cap] w fun e w' => e = .returned (.bool (decide ((1048576 : Int) < (n : Int)))) ∧ w = w' := by
  go_enter Try.func13, Try.ntmps13
  go_wp2
  go_ret
  exact ⟨rfl, rfl⟩
theorem cells5 : Try.prog.cellsOf 5 = 1 := by kernel_rfl
set_option maxRecDepth 100000 in
theorem open_bytes {H : Type} {enc : TypeId × Value → H} {W : World} {base : Nat} {v : Value} {d : DataW H} {p : List MemPlace} (hv : Value.okWide Try.prog W .any base 22 v)
    (h : DataW.Trod enc Try.prog W 0 (fun _ => true) true 22 v d p) : ∃ (n : Nat) (g : Nat → Int), RdB W v n g ∧ n ≤ 9223372036854775807 ∧ ∀ i, i < n → 0 ≤ g i ∧ g i ≤ 255 := by
  obtain ⟨a0, len, cap, rfl⟩ := okWide_slice Try.underlying22 hv
  obtain ⟨fuel, hf⟩ := h
  rcases open_ints Try.underlying22 Try.underlying5 cells5 hf with ⟨hcs0, _⟩ | ⟨a, len', cap', zs, hcs0, _, hl, hm, hz, _, hc, hw⟩
  · simp [Value.cells] at hcs0
    obtain ⟨rfl, rfl, rfl⟩ := hcs0
    exact ⟨0, fun _ => 0, Or.inl ⟨_, _, rfl, rfl⟩, by omega, fun i hi => by omega⟩
  simp [Value.cells] at hcs0
  obtain ⟨rfl, rfl, rfl⟩ := hcs0
  rw [maxLen_eq] at hm
  simp only [if_true] at hz
  by_cases h0 : len = 0
  · subst h0
    exact ⟨0, fun _ => 0, Or.inl ⟨_, _, rfl, rfl⟩, by omega, fun i hi => by omega⟩
  obtain ⟨b, o, spot⟩ := a
  have hspot : spot = none := by simpa [Addr.add] using World.cell?_spot (hc 0 (by omega))
  subst hspot
  refine ⟨len, fun i => zs.getD i 0, Or.inr ⟨b, o, cap, rfl, fun i hi => by rw [← add_plain]; exact hc i (by omega)⟩, by omega, fun i hi => ?_⟩
  have hmem : zs.getD i 0 ∈ zs := by
    rw [List.getD_eq_getElem?_getD, List.getElem?_eq_getElem (by omega)]
    exact List.getElem_mem _
  have h1 := hw _ hmem
  simp only [Lit.wf, Bool.and_eq_true, decide_eq_true_eq] at h1
  have h2 : IntKind.u8.min = 0 := by decide
  have h3 : IntKind.u8.max = 255 := by decide
  show 0 ≤ zs.getD i 0 ∧ zs.getD i 0 ≤ 255
  omega
theorem nexts_of {w0 : World} {v : Value} {n : Nat} {g : Nat → Int} {p : Nat} (hB : RdB w0 v n g) (hg : ∀ i, i < n → 0 ≤ g i ∧ g i ≤ 255) (hn : n ≤ 1000000000000) : Nexts w0 v p := fun w a N hS h1 h2 h3 h4 => next_any hS hB hg hn h1 h2 h3 h4
theorem pick_any {w0 w : World} {v : Value} {a : Int} {p : Nat} (hS : Src w0 w v a p) (NX : Nexts w0 v p) (h0 : 0 ≤ a) (h1 : a ≤ 100000) (b m : Nat) (hm : 1 ≤ m) (hm2 : m ≤ 100) (hb : b ≠ p) (hc : ∀ i, i < m → ∃ x : Int, w.cell? ⟨b, i, none⟩ = some (.int .i64 x)) :
    Calls Try.prog 56 #[.pointer (some ⟨p, 0, none⟩), .slice (some ⟨b, 0, none⟩) m m] w fun e w' => ∃ r : Int, e = .returned (.int .i64 r) ∧ Src w0 w' v (a + 1) p := by
  have C : Hid (Calls Try.prog 54 #[.pointer (some ⟨p, 0, none⟩), .int .i64 m] w fun e w' => ∃ r : Int, e = .returned (.int .i64 r) ∧ 0 ≤ r ∧ r < m ∧ Src w0 w' v (a + 1) p ∧ ∀ b, b ≠ p → w'.heap[b]? = w.heap[b]?) := NX w a m hS h0 h1 (by omega) (by omega)
  have HC : Hid (∀ i, i < m → ∃ x : Int, w.cell? ⟨b, i, none⟩ = some (.int .i64 x)) := hc
  clear hS NX hc
  go_enter Try.func56, Try.ntmps56
  go_wp2_with fail
  refine C.out.mono ?_
  rintro e w1 ⟨r, rfl, r0, r1, hS, hk⟩
  obtain ⟨i, rfl⟩ := Int.eq_ofNat_of_zero_le r0
  obtain ⟨x, hx⟩ := HC.out i (by omega)
  have hx1 : w1.cell? ⟨b, i, none⟩ = some (.int .i64 x) := by
    simp only [World.cell?] at hx ⊢
    rw [hk b hb]
    exact hx
  have HS : Hid (Src w0 w1 v (a + 1) p) := hS
  clear hS hk hx C HC
  go_wp2
  go_ret
  exact ⟨x, rfl, HS.out⟩
theorem Src.lt {w0 w : World} {v : Value} {a : Int} {p : Nat} (h : Src w0 w v a p) : p < w.heap.size := World.block_lt_of_cell? _ _ h.code
set_option maxHeartbeats 1600000 in
theorem at_one (ao : Option Addr) (n cap : Nat) (N : Int) (w : World) (hN : N ≤ 1) : Calls Try.prog 17 #[.slice ao n cap, .int .i64 4, .int .i64 N] w fun e w' => ∃ r : Int, e = .returned (.int .i64 r) ∧ 0 ≤ r ∧ (1 ≤ N → r < N) ∧ ∃ q, w' = w.drewN q := by
  go_enter Try.func17, Try.ntmps17
  go_wp2
  go_ret
  exact ⟨0, rfl, by omega, by omega, 0, rfl⟩
set_option maxHeartbeats 1600000 in
theorem at_none (ao : Option Addr) (cap : Nat) (N : Int) (w : World) (hN : 1 < N) : Calls Try.prog 17 #[.slice ao 0 cap, .int .i64 4, .int .i64 N] w fun e w' => ∃ r : Int, e = .returned (.int .i64 r) ∧ 0 ≤ r ∧ (1 ≤ N → r < N) ∧ ∃ q, w' = w.drewN q := by
  have hr := tmod_fits (x := 28) (N := N) (by omega) (by omega)
  obtain ⟨t, ht⟩ : ∃ t, t = (28 : Int).tmod N := ⟨_, rfl⟩
  rw [← ht] at hr
  have ht' := ht.symm
  have hN1 : ¬ N ≤ 1 := by omega
  have hN0 : N ≠ 0 := by omega
  clear ht
  go_enter Try.func17, Try.ntmps17
  go_wp2
  go_ret
  exact ⟨t, rfl, hr.1, fun _ => hr.2, 0, rfl⟩
set_option maxHeartbeats 1600000 in
theorem at_short (b off n cap : Nat) (x q N : Int) (i : Nat) (w : World) (h1 : 1 < N) (h2 : N ≤ 200) (hn : 0 < n) (hn2 : n ≤ 1000000000000) (hi : i < n) (hr : (4 : Int).tmod (n : Int) = (i : Int)) (hq : (4 : Int).tdiv (n : Int) = q) (q0 : 0 ≤ q) (q1 : q ≤ 4) (x0 : 0 ≤ x) (x1 : x ≤ 255)
    (hx : w.cell? ⟨b, off + i, none⟩ = some (.int .u8 x)) :
    Calls Try.prog 17 #[.slice (some ⟨b, off, none⟩) n cap, .int .i64 4, .int .i64 N] w fun e w' => ∃ r : Int, e = .returned (.int .i64 r) ∧ 0 ≤ r ∧ (1 ≤ N → r < N) ∧ ∃ q, w' = w.drewN q := by
  have ht := tmod_fits (x := x + q * 3) (N := N) (by omega) (by omega)
  obtain ⟨t, ht'⟩ : ∃ t, (x + q * 3).tmod N = t := ⟨_, rfl⟩
  rw [ht'] at ht
  have n0 : ¬ (n : Int) = 0 := by omega
  have hN1 : ¬ N ≤ 1 := by omega
  have hN0 : N ≠ 0 := by omega
  go_enter Try.func17, Try.ntmps17
  go_wp2
  go_quiet (fail)
  go_wp2
  go_ret
  exact ⟨t, rfl, ht.1, fun _ => ht.2, nq, rfl⟩
set_option maxHeartbeats 1600000 in
theorem at_long (b off n cap : Nat) (x y q N : Int) (i j : Nat) (w : World) (h1 : 200 < N) (h2 : N ≤ 1000000) (hn : 0 < n) (hn2 : n ≤ 1000000000000) (hi : i < n) (hj : j < n) (hr : (4 : Int).tmod (n : Int) = (i : Int)) (hr2 : (5 : Int).tmod (n : Int) = (j : Int)) (hq : (4 : Int).tdiv (n : Int) = q) (q0 : 0 ≤ q) (q1 : q ≤ 4) (x0 : 0 ≤ x) (x1 : x ≤ 255) (y0 : 0 ≤ y) (y1 : y ≤ 255)
    (hx : w.cell? ⟨b, off + i, none⟩ = some (.int .u8 x)) (hy : w.cell? ⟨b, off + j, none⟩ = some (.int .u8 y)) :
    Calls Try.prog 17 #[.slice (some ⟨b, off, none⟩) n cap, .int .i64 4, .int .i64 N] w fun e w' => ∃ r : Int, e = .returned (.int .i64 r) ∧ 0 ≤ r ∧ (1 ≤ N → r < N) ∧ ∃ q, w' = w.drewN q := by
  have ht := tmod_fits (x := (x + q * 3) * 251 + y) (N := N) (by omega) (by omega)
  obtain ⟨t, ht'⟩ : ∃ t, ((x + q * 3) * 251 + y).tmod N = t := ⟨_, rfl⟩
  rw [ht'] at ht
  have n0 : ¬ (n : Int) = 0 := by omega
  have hN1 : ¬ N ≤ 1 := by omega
  have hN0 : N ≠ 0 := by omega
  go_enter Try.func17, Try.ntmps17
  go_wp2
  go_quiet (fail)
  go_wp2
  go_ret
  exact ⟨t, rfl, ht.1, fun _ => ht.2, nq, rfl⟩
theorem at_any {w0 w : World} {v : Value} {n : Nat} {g : Nat → Int} {N : Int} (hb : Below w0.heap.size w0 w) (hB : RdB w0 v n g) (hg : ∀ i, i < n → 0 ≤ g i ∧ g i ≤ 255) (hn : n ≤ 1000000000000) (hN : N ≤ 1000000) :
    Calls Try.prog 17 #[v, .int .i64 4, .int .i64 N] w fun e w' => ∃ r : Int, e = .returned (.int .i64 r) ∧ 0 ≤ r ∧ (1 ≤ N → r < N) ∧ ∃ q, w' = w.drewN q := by
  by_cases h1 : N ≤ 1
  · obtain ⟨ao, cap, rfl⟩ : ∃ ao cap, v = .slice ao n cap := by
      rcases hB with ⟨ao, cap, rfl, rfl⟩ | ⟨b, off, cap, rfl, _⟩
      · exact ⟨_, _, rfl⟩
      · exact ⟨_, _, rfl⟩
    exact at_one ao n cap N w h1
  rcases hB with ⟨ao, cap, rfl, rfl⟩ | ⟨b, off, cap, rfl, hc⟩
  · exact at_none ao cap N w (by omega)
  · by_cases h0 : n = 0
    · subst h0
      exact at_none _ cap N w (by omega)
    · obtain ⟨i, hi, hr⟩ := rem_nat (a := 4) (n := n) (by omega) (by omega)
      obtain ⟨j, hj, hr2⟩ := rem_nat (a := 5) (n := n) (by omega) (by omega)
      obtain ⟨q, q0, q1, hq⟩ := quo_nat (a := 4) (n := n) (by omega) (by omega)
      by_cases h2 : N ≤ 200
      · exact at_short b off n cap (g i) q N i w (by omega) h2 (by omega) hn hi hr hq q0 q1 (hg i hi).1 (hg i hi).2 (RdB.cells hb hc i hi)
      · exact at_long b off n cap (g i) (g j) q N i j w (by omega) hN (by omega) hn hi hj hr hr2 hq q0 q1 (hg i hi).1 (hg i hi).2 (hg j hj).1 (hg j hj).2 (RdB.cells hb hc i hi) (RdB.cells hb hc j hj)
structure Bu (p : Nat) (w w' : World) : Prop where
  size : w.heap.size ≤ w'.heap.size
  blk : ∀ b, b < w.heap.size → b ≠ p → w'.heap[b]? = w.heap[b]?
namespace Bu
variable {p : Nat} {w w' w'' : World}
theorem refl (p : Nat) (w : World) : Bu p w w := ⟨Nat.le_refl _, fun _ _ _ => rfl⟩
theorem trans (h : Bu p w w') (k : Bu p w' w'') : Bu p w w'' := ⟨Nat.le_trans h.size k.size, fun b hb hp => (k.blk b (Nat.lt_of_lt_of_le hb h.size) hp).trans (h.blk b hb hp)⟩
theorem of_below (k : Below w.heap.size w w') : Bu p w w' := ⟨k.size, fun b hb _ => k.block b hb⟩
theorem later (h : Bu p w w') (k : Below w'.heap.size w' w'') : Bu p w w'' := h.trans (of_below k)
theorem alloc (h : Bu p w w') (o : Obj) : Bu p w (w'.alloc o) := h.later ((Below.refl _ _).alloc (Nat.le_refl _) o)
theorem set (h : Bu p w w') {k j : Nat} (hk : w.heap.size ≤ k) (x : Value) : Bu p w (w'.setCell ⟨k, j, none⟩ x) :=
  ⟨by have := h.size; simpa using this, fun b hb hp => (Below.heap_setCell _ _ _ _ (show b ≠ k by omega)).trans (h.blk b hb hp)⟩
theorem keep (h : Bu p w w') {b : Nat} {cs : Array Value} {t : TypeId} (k : Blk w b cs t) (hp : b ≠ p) : Blk w' b cs t := (h.blk b k.lt hp).trans k
end Bu
theorem Src.later {w0 w w' : World} {v : Value} {a : Int} {p : Nat} (h : Src w0 w v a p) (k : Below w.heap.size w w') : Src w0 w' v a p :=
  ⟨h.below.trans (k.mono h.below.size), h.new, (k.cell (p := ⟨p, 0, none⟩) h.lt).trans h.code, (k.cell (p := ⟨p, 1, none⟩) h.lt).trans h.here, (k.frozen (p := ⟨p, 1, none⟩) h.lt).trans h.free⟩
theorem Src.set {w0 w : World} {v : Value} {a : Int} {p k j : Nat} (h : Src w0 w v a p) (hk : k ≠ p) (h0 : w0.heap.size ≤ k) (x : Value) : Src w0 (w.setCell ⟨k, j, none⟩ x) v a p := by
  have e : (w.setCell ⟨k, j, none⟩ x).heap[p]? = w.heap[p]? := Below.heap_setCell _ _ _ _ (show p ≠ k by omega)
  refine ⟨h.below.setCell h0 _, h.new, ?_, ?_, ?_⟩
  · exact (World.cell?_of_block (w := w) (a := ⟨p, 0, none⟩) e).trans h.code
  · exact (World.cell?_of_block (w := w) (a := ⟨p, 1, none⟩) e).trans h.here
  · rw [← h.free]; simp only [World.frozen?]; rw [e]
theorem bu_next {w0 w w' : World} {v : Value} {a : Int} {p : Nat} (h : Src w0 w' v a p) (k : ∀ b, b ≠ p → w'.heap[b]? = w.heap[b]?) : Bu p w w' := by
  refine ⟨?_, fun b _ hp => k b hp⟩
  rcases Nat.lt_or_ge w'.heap.size w.heap.size with hl | hl
  · exfalso
    have hp : w'.heap.size ≠ p := by have := h.lt; omega
    have e := k _ hp
    rw [Array.getElem?_eq_none (Nat.le_refl _), Array.getElem?_eq_getElem hl] at e
    cases e
  · exact hl

set_option maxHeartbeats 1600000 in
theorem chance_any {w0 w : World} {v : Value} {a : Int} {p : Nat} (hS : Src w0 w v a p) (NX : Nexts w0 v p) (h0 : 0 ≤ a) (h1 : a ≤ 90000) (N : Int) (hN : 1 ≤ N) (hN2 : N ≤ 1000) :
    Calls Try.prog 55 #[.pointer (some ⟨p, 0, none⟩), .int .i64 N] w fun e w' => ∃ b : Bool, e = .returned (.bool b) ∧ Src w0 w' v (a + 1) p ∧ Bu p w w' := by
  go_enter Try.func55, Try.ntmps55
  go_wp2_with fail
  refine (NX _ _ N hS (by omega) (by omega) (by omega) (by omega)).mono ?_
  rintro e w1 ⟨r1, rfl, p0, p1, hS1, hb⟩
  have U : Hid (Bu p w w1) := bu_next hS1 hb
  replace hS1 : Hid _ := hS1
  clear hS NX hb
  go_wp2
  go_ret
  exact ⟨_, rfl, hS1.out, U.out⟩

set_option maxHeartbeats 1600000 in
theorem pick_bu {w0 w : World} {v : Value} {a : Int} {p : Nat} (hS : Src w0 w v a p) (NX : Nexts w0 v p) (h0 : 0 ≤ a) (h1 : a ≤ 100000) (b m : Nat) (hm : 1 ≤ m) (hm2 : m ≤ 100) (hb : b ≠ p) (hc : ∀ i, i < m → ∃ x : Int, w.cell? ⟨b, i, none⟩ = some (.int .i64 x)) :
    Calls Try.prog 56 #[.pointer (some ⟨p, 0, none⟩), .slice (some ⟨b, 0, none⟩) m m] w fun e w' => ∃ r : Int, e = .returned (.int .i64 r) ∧ Src w0 w' v (a + 1) p ∧ Bu p w w' := by
  have C : Hid (Calls Try.prog 54 #[.pointer (some ⟨p, 0, none⟩), .int .i64 m] w fun e w' => ∃ r : Int, e = .returned (.int .i64 r) ∧ 0 ≤ r ∧ r < m ∧ Src w0 w' v (a + 1) p ∧ ∀ b, b ≠ p → w'.heap[b]? = w.heap[b]?) := NX w a m hS h0 h1 (by omega) (by omega)
  have HC : Hid (∀ i, i < m → ∃ x : Int, w.cell? ⟨b, i, none⟩ = some (.int .i64 x)) := hc
  clear hS NX hc
  go_enter Try.func56, Try.ntmps56
  go_wp2_with fail
  refine C.out.mono ?_
  rintro e w1 ⟨r, rfl, r0, r1, hS, hk⟩
  obtain ⟨i, rfl⟩ := Int.eq_ofNat_of_zero_le r0
  obtain ⟨x, hx⟩ := HC.out i (by omega)
  have hx1 : w1.cell? ⟨b, i, none⟩ = some (.int .i64 x) := by
    simp only [World.cell?] at hx ⊢
    rw [hk b hb]
    exact hx
  have HS : Hid (Src w0 w1 v (a + 1) p ∧ Bu p w w1) := ⟨hS, bu_next hS hk⟩
  clear hS hk hx C HC
  go_wp2
  go_ret
  exact ⟨x, rfl, HS.out.1, HS.out.2⟩
end Go.Proofs.Ytkkajcdjkfbcgaa
