/- Shares given out, of the specification. -/
import Derived.Test.YtdknclkecbdpgaaDoorSl
namespace Go.Proofs.YtdknclkecbdpgaaDoor
open Go.RowKit
set_option linter.unusedVariables false
set_option linter.unusedSimpArgs false
theorem info33 : (Tryd.prog.info? 33).map (fun i => (i.zero, i.size, i.bytes)) = some (some (.agg #[.int .i64 0, .int .i64 0]), 2, 16) := by kernel_rfl
def shl (G : Nat → Sh) (i : Nat) : List Value := [.int .i64 (G i).1, .int .i64 (G i).2]
/-- A list of shares that is new memory between two marks. -/
def OwP (lo hi : Nat) (w : World) (v : Value) (n : Nat) (G : Nat → Sh) : Prop :=
  (v = .slice none 0 0 ∧ n = 0) ∨ ∃ g cap, v = .slice (some ⟨g, 0, none⟩) n cap ∧ lo ≤ g ∧ g < hi ∧ SegV w g 33 n 2 (fun i j => scell (G i) j)
/-- An answer: a code and a list of shares that is new memory. -/
def Sa (fn : FuncId) (args : Array Value) (w : World) (c : Int) (n : Nat) (G : Nat → Sh) : Prop :=
  Calls Tryd.prog fn args w fun e w' => ∃ v, e = .returned (.agg #[.int .i64 c, v]) ∧ OwP w.heap.size w'.heap.size w' v n G ∧ Below w.heap.size w w'
theorem owned_sh {w : World} {base n : Nat} {v : Value} {G : Nat → Sh} (h : w.ownsRow base 33 2 v n (flat (shl G) n)) : OwP base w.heap.size w v n G := by
  by_cases hv : v = .slice none 0 0
  · obtain ⟨_, h | ⟨g, cap, cur, hv', _⟩⟩ := h
    · exact Or.inl h
    · rw [hv'] at hv; cases hv
  · obtain ⟨g, cap, e, hg, hs⟩ := owned_segV (F := shl G) (f := fun i j => scell (G i) j) (fun _ => rfl) (fun i _ j hj => by match j, hj with | 0, _ => rfl | 1, _ => rfl) h hv
    exact Or.inr ⟨g, cap, e, hg, hs.lt, hs⟩
/-- The shares of a list. -/
def so (F : Nat → Int) (n : Nat) (i : Nat) : Sh := (((i : Int) + 1), hv F ((i : Int) + 1) n n)
structure Lp (w W : World) (B : Nat) (v : Value) (k : Nat) (G : Nat → Sh) : Prop where
  own : W.ownsRow B 33 2 v k (flat (shl G) k)
  rbox : Blk W w.heap.size #[.int .i64 0, .slice none 0 0] 29
  below : Below w.heap.size w W
  lb : w.heap.size + 1 ≤ B
  lt : B ≤ W.heap.size
theorem Lp.later {w W W' : World} {B : Nat} {v : Value} {k : Nat} {G : Nat → Sh} (h : Lp w W B v k G) (b : Below W.heap.size W W') : Lp w W' B v k G :=
  ⟨owns_later h.own b, h.rbox.later b, h.below.trans (b.mono h.below.size), h.lb, Nat.le_trans h.lt b.size⟩
theorem Lp.grow {w W W' : World} {B : Nat} {v v' : Value} {k k' : Nat} {G : Nat → Sh} (h : Lp w W B v k G) (b : Below B W W') (own : W'.ownsRow B 33 2 v' k' (flat (shl G) k')) : Lp w W' B v' k' G :=
  ⟨own, (b.block _ (by have := h.lb; omega)).trans h.rbox, h.below.trans (b.mono (by have := h.lb; omega)), h.lb, Nat.le_trans h.lt b.size⟩
set_option maxRecDepth 20000 in
set_option maxHeartbeats 3200000 in
theorem sSO_0 {w : World} {ao : Option Addr} {cap : Nat} {M : Int}  (G : Nat → Sh) : Sa 18 #[.slice ao 0 cap, .int .i64 M] w 1 0 G := by
  unfold Sa
  go_enter Tryd.func18, Tryd.ntmps18
  go_wp2
  exact bodyPost_ret (v := .agg #[.int .i64 1, .slice none 0 0]) (by simp [results, Tryd.results18, go_sem]) rfl ⟨_, rfl, Or.inl ⟨rfl, rfl⟩, (Below.refl _ _).alloc (Nat.le_refl _) _⟩
set_option maxRecDepth 20000 in
set_option maxHeartbeats 3200000 in
theorem sSO_1 {w : World} {ao : Option Addr} {n cap : Nat} {M : Int} (h0 : 0 < n) (h : M < n) (G : Nat → Sh) : Sa 18 #[.slice ao n cap, .int .i64 M] w 1 0 G := by
  unfold Sa
  have g1 : ¬ n = 0 := by omega
  go_enter Tryd.func18, Tryd.ntmps18
  go_wp2
  exact bodyPost_ret (v := .agg #[.int .i64 1, .slice none 0 0]) (by simp [results, Tryd.results18, go_sem]) rfl ⟨_, rfl, Or.inl ⟨rfl, rfl⟩, (Below.refl _ _).alloc (Nat.le_refl _) _⟩
set_option maxRecDepth 20000 in
set_option maxHeartbeats 3200000 in
theorem sSO_2 {w : World} {ao : Option Addr} {n cap : Nat} {M : Int} (h0 : 0 < n) (h : (n : Int) ≤ M) (h2 : 60 < M) (G : Nat → Sh) : Sa 18 #[.slice ao n cap, .int .i64 M] w 2 0 G := by
  unfold Sa
  have g1 : ¬ n = 0 := by omega
  have g2 : ¬ M < n := by omega
  go_enter Tryd.func18, Tryd.ntmps18
  go_wp2
  exact bodyPost_ret (v := .agg #[.int .i64 2, .slice none 0 0]) (by simp [results, Tryd.results18, go_sem]) rfl ⟨_, rfl, Or.inl ⟨rfl, rfl⟩, (Below.refl _ _).alloc (Nat.le_refl _) _⟩
set_option maxRecDepth 20000 in
set_option maxHeartbeats 3200000 in
theorem sSO_ok {w : World} {b off n cap M : Nat} {F : Nat → Int} (hc : ∀ i, i < n → w.cell? ⟨b, off + i, none⟩ = some (.int .i64 (F i))) (h1 : 0 < n) (h2 : n ≤ M) (h3 : M ≤ 60) : Sa 18 #[.slice (some ⟨b, off, none⟩) n cap, .int .i64 (M : Int)] w 0 M (so F n) := by
  unfold Sa
  have HC : Hid (∀ W, Below w.heap.size w W → ∀ i, i < n → W.cell? ⟨b, off + i, none⟩ = some (.int .i64 (F i))) := fun W hb i hi => (hb.cell (World.block_lt_of_cell? _ _ (hc i hi))).trans (hc i hi)
  have g1 : ¬ n = 0 := by omega
  have g1' : ((n : Int) == 0) = false := by simp; omega
  have g2 : ¬ (M : Int) < n := by omega
  have g3 : ¬ (60 : Int) < M := by omega
  obtain ⟨w0, hw0⟩ : ∃ W, W = w.alloc (.cells #[.int .i64 0, .slice none 0 0] 29) := ⟨_, rfl⟩
  have H0 : Hid (Blk w0 w.heap.size #[.int .i64 0, .slice none 0 0] 29 ∧ Below w.heap.size w w0) := by rw [hw0]; exact ⟨Blk.new rfl, (Below.refl _ _).alloc (Nat.le_refl _) _⟩
  have T0 : Hid (Lp w (w0.alloc (.cells #[] 33)) w0.heap.size (.slice (some ⟨w0.heap.size, 0, none⟩) 0 0) 0 (so F n)) := ⟨owns_empty _ _ _, H0.out.1.alloc _, H0.out.2.alloc H0.out.2.size _, H0.out.1.lt, by simp⟩
  have hz : w0.heap.size = w.heap.size + 1 := by rw [hw0]; simp
  rw [hz] at T0
  obtain ⟨x0, hx0⟩ : ∃ W, W = w0.alloc (.cells #[] 33) := ⟨_, rfl⟩
  rw [← hx0] at T0
  rw [hw0] at hx0
  clear hc hw0 H0 hz
  go_enter Tryd.func18, Tryd.ntmps18
  go_wp2_with fail
  rw [← hx0]
  clear hx0
  go_loopw [5, 6] (fun v i wr => ∃ (k : Nat) (v5 : Value), k ≤ M ∧ v5 = v ∧ i = .int .i64 ((k : Int) + 1) ∧ Hid (Lp w wr (w.heap.size + 1) v5 k (so F n))) (fun _ i _ => M + 1 - (intOf i).toNat)
  case atStart => exact ⟨0, _, Nat.zero_le _, rfl, rfl, T0⟩
  case round =>
    obtain ⟨k, v5, hk, hv5, rfl, HL⟩ := hrel
    subst hv5
    by_cases hkM : k < M
    · have q1 : (k : Int) + 1 ≤ M := by omega
      have u1 : IntKind.i64.wrap ((k : Int) + 1 + 1) = (k : Int) + 1 + 1 := wr64' (by omega) (by omega)
      go_wp2_with fail
      refine Calls.mono (sVal_any (HC.out _ HL.out.below) ((k : Int) + 1) (by omega)) ?_
      rintro e x1 ⟨rfl, q, hq⟩
      have T1 : Hid (Lp w x1 (w.heap.size + 1) v5 k (so F n)) := HL.out.later (by rw [hq]; exact below_drewN (Below.refl _ _) q)
      clear hq HL
      obtain ⟨y, hy⟩ : ∃ y, y = hv F ((k : Int) + 1) n n := ⟨_, rfl⟩
      have HY : Hid (y = hv F ((k : Int) + 1) n n) := hy
      rw [← hy]
      clear hy
      go_wp2_with (first | (at_builtin; refine push_law rfl (.tmp 26) (.tmp 32) 27 rfl 33 (.agg #[.int .i64 0, .int .i64 0]) 2 16 Tryd.underlying27 info33 rfl (by decide) (by decide) _ [.int .i64 ((k : Int) + 1), .int .i64 y] rfl (by simp [Value.oneCell']) (w.heap.size + 1) v5 k _ rfl T1.out.own 1 rfl (by omega) T1.out.lt ?_; intro v6 x2 o2 g2 n2; have T2 : Hid (Lp w x2 (w.heap.size + 1) v6 (k + 1) (so F n)) := T1.out.grow (push_below T1.out.own g2 (Below.refl _ _) T1.out.lt) (by rw [flat_succ]; rw [HY.out] at o2; exact o2)))
      go_roundw
      case rel => exact ⟨k + 1, _, by omega, rfl, by simp, T2⟩
      case measure => simp [intOf] <;> omega
    · obtain rfl : k = M := by omega
      have q1 : ¬ (k : Int) + 1 ≤ k := by omega
      obtain ⟨ao, cp, rfl⟩ : ∃ ao cp, v5 = .slice ao k cp := by
        rcases owned_sh HL.out.own with ⟨e, rfl⟩ | ⟨g, cp, e, _⟩
        · exact ⟨_, _, e⟩
        · exact ⟨_, _, e⟩
      have c0 := HL.out.rbox.cell (j := 0) (v := .int .i64 0) rfl
      have c1 := HL.out.rbox.cell (j := 1) (v := .slice none 0 0) rfl
      have f0 := HL.out.rbox.frozen 0
      have f1 := HL.out.rbox.frozen 1
      go_wp2
      refine bodyPost_ret (v := .agg #[.int .i64 0, .slice ao k cp]) (by simp [results, Tryd.results18, go_sem, c0, c1]) rfl ⟨_, rfl, ?_, (HL.out.below.setCell (by simp) _).setCell (by simp) _⟩
      have hlb := HL.out.lb
      rcases owned_sh HL.out.own with ⟨e1, e2⟩ | ⟨g', cq, e1, r1, r2, r3⟩
      · exact Or.inl ⟨e1, e2⟩
      · exact Or.inr ⟨g', cq, e1, by omega, by simpa using r2, (r3.setOther (by omega) _).setOther (by omega) _⟩
end Go.Proofs.YtdknclkecbdpgaaDoor
