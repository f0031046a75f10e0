/- Rows of whole numbers: memory that holds them; the laws' own copies, comparisons, marks: contracts. -/
import Derived.Test.YtndfncjoknibaaaDoorBase
import Derived.Deep.OwnRows
namespace Go.Proofs.YtndfncjoknibaaaDoor
open Go.RowKit
set_option linter.unusedVariables false
theorem ret_int {a b : Int} (h : a = b) : Ending.returned (.int .i64 a) = .returned (.int .i64 b) := by rw [h]
theorem ret_bool {a b : Bool} (h : a = b) : Ending.returned (.bool a) = .returned (.bool b) := by rw [h]
/-- Block b is of type t, none of its cells frozen, and from cell 'off' on it holds n values f. -/
def Seg (w : World) (b : Nat) (t : TypeId) (off n : Nat) (f : Nat → Value) : Prop :=
  ∃ c : Array Value, w.heap[b]? = some (.cells c t (0, 0)) ∧ ∀ i, i < n → c[off + i]? = some (f i)
namespace Seg
variable {w : World} {b : Nat} {t : TypeId} {off n : Nat} {f g : Nat → Value}
theorem cell (h : Seg w b t off n f) {i : Nat} (hi : i < n) : w.cell? ⟨b, off + i, none⟩ = some (f i) := by
  obtain ⟨c, hb, hc⟩ := h
  simp [World.cell?, hb, hc i hi]
theorem frozen (h : Seg w b t off n f) (i : Nat) : w.frozen? ⟨b, i, none⟩ = false := by
  obtain ⟨c, hb, _⟩ := h
  simp [World.frozen?, hb]
theorem lt (h : Seg w b t off n f) : b < w.heap.size := by
  obtain ⟨c, hb, _⟩ := h
  obtain ⟨hlt, _⟩ := Array.getElem?_eq_some_iff.1 hb
  exact hlt
theorem congr (h : Seg w b t off n f) (e : ∀ i, i < n → f i = g i) : Seg w b t off n g := by
  obtain ⟨c, hb, hc⟩ := h
  exact ⟨c, hb, fun i hi => by rw [hc i hi, e i hi]⟩
theorem of_block {w' : World} (h : Seg w b t off n f) (e : w'.heap[b]? = w.heap[b]?) : Seg w' b t off n f := by
  obtain ⟨c, hb, hc⟩ := h
  exact ⟨c, e.trans hb, hc⟩
theorem set (h : Seg w b t off n f) (i : Nat) (hi : i < n) (v : Value) : Seg (w.setCell ⟨b, off + i, none⟩ v) b t off n (fun j => if j = i then v else f j) := by
  obtain ⟨c, hb, hc⟩ := h
  refine ⟨c.setIfInBounds (off + i) v, ?_, fun j hj => ?_⟩
  · simp [World.setCell, Array.getElem?_modify, hb]
  · have hs : off + i < c.size := (Array.getElem?_eq_some_iff.1 (hc i hi)).1
    rw [Array.getElem?_setIfInBounds]
    by_cases e : j = i
    · subst e
      simp [hs]
    · rw [if_neg (fun h => e (by omega))]
      show c[off + j]? = some (if j = i then v else f j)
      rw [if_neg e]
      exact hc j hj
theorem setOther (h : Seg w b t off n f) {a : Addr} (ha : b ≠ a.block) (v : Value) : Seg (w.setCell a v) b t off n f := h.of_block (Below.heap_setCell _ _ _ _ ha)
theorem alloc (h : Seg w b t off n f) (o : Obj) : Seg (w.alloc o) b t off n f := h.of_block (Below.heap_alloc _ _ _ h.lt)
theorem drew (h : Seg w b t off n f) : Seg w.drew b t off n f := h
theorem sub (h : Seg w b t off n f) (d m : Nat) (hm : d + m ≤ n) : Seg w b t (off + d) m (fun i => f (d + i)) := by
  obtain ⟨c, hb, hc⟩ := h
  exact ⟨c, hb, fun i hi => by rw [Nat.add_assoc]; exact hc (d + i) (by omega)⟩
end Seg
theorem Seg_of_row {w : World} {b : Nat} {t : TypeId} {n : Nat} {f : Nat → Value} (h : w.rowIs b t n f) : Seg w b t 0 n f := by
  obtain ⟨c, hb, _, hc⟩ := h
  exact ⟨c, hb, fun i hi => by rw [Nat.zero_add]; exact hc i hi⟩
theorem seg_made (w : World) (z : Value) (n : Nat) (t : TypeId) : Seg (w.alloc (.cells (madeCells #[z] n) t)) w.heap.size t 0 n (fun _ => z) := Seg_of_row (World.rowIs_made w z n t)
/-- Two blocks of unlike types are two. -/
theorem Seg.ne {w : World} {b b' : Nat} {t t' : TypeId} {off n off' n' : Nat} {f g : Nat → Value} (h : Seg w b t off n f) (h' : Seg w b' t' off' n' g) (ht : t ≠ t') : b ≠ b' := by
  obtain ⟨c, hb, _⟩ := h
  obtain ⟨c', hb', _⟩ := h'
  intro e
  subst e
  rw [hb] at hb'
  simp at hb'
  exact ht hb'.2

/-! ### What is only read -/

/-- v is a slice of n numbers f, to be read. -/
def RdRow (w : World) (v : Value) (n : Nat) (f : Nat → Int) : Prop :=
  (∃ ao cap, v = .slice ao 0 cap ∧ n = 0) ∨ ∃ b off cap, v = .slice (some ⟨b, off, none⟩) n cap ∧ ∀ i, i < n → w.cell? ⟨b, off + i, none⟩ = some (.int .i64 (f i))
theorem RdRow.later {w w' : World} {v : Value} {n : Nat} {f : Nat → Int} (h : RdRow w v n f) (hb : Below w.heap.size w w') : RdRow w' v n f := by
  rcases h with h | ⟨b, off, cap, rfl, h⟩
  · exact Or.inl h
  · exact Or.inr ⟨b, off, cap, rfl, fun i hi => (hb.cell (World.block_lt_of_cell? _ _ (h i hi))).trans (h i hi)⟩
theorem RdRow.congr {w : World} {v : Value} {n : Nat} {f g : Nat → Int} (h : RdRow w v n f) (e : ∀ i, i < n → f i = g i) : RdRow w v n g := by
  rcases h with h | ⟨b, off, cap, rfl, h⟩
  · exact Or.inl h
  · exact Or.inr ⟨b, off, cap, rfl, fun i hi => by rw [h i hi, e i hi]⟩
theorem Seg.rd {w : World} {b : Nat} {t : TypeId} {off n cap : Nat} {f : Nat → Int} (h : Seg w b t off n (fun i => .int .i64 (f i))) : RdRow w (.slice (some ⟨b, off, none⟩) n cap) n f :=
  Or.inr ⟨b, off, cap, rfl, fun _ hi => h.cell hi⟩
theorem RdRow.nil (w : World) (f : Nat → Int) : RdRow w (.slice none 0 0) 0 f := Or.inl ⟨none, 0, rfl, rfl⟩


/-- Stores between lo and hi alone, and new blocks. -/
structure Within (lo hi : Nat) (w w' : World) : Prop where
  below : Below lo w w'
  above : ∀ k, hi ≤ k → k < w.heap.size → w'.heap[k]? = w.heap[k]?
theorem Within.refl (lo hi : Nat) (w : World) : Within lo hi w w := ⟨Below.refl _ _, fun _ _ _ => rfl⟩
theorem Within.trans {lo hi : Nat} {a b c : World} (h : Within lo hi a b) (k : Within lo hi b c) : Within lo hi a c :=
  ⟨h.below.trans k.below, fun i h1 h2 => (k.above i h1 (Nat.lt_of_lt_of_le h2 h.below.size)).trans (h.above i h1 h2)⟩
theorem Within.setCell {lo hi : Nat} {a w : World} (h : Within lo hi a w) {p : Addr} (h1 : lo ≤ p.block) (h2 : p.block < hi) (u : Value) : Within lo hi a (w.setCell p u) :=
  h.trans ⟨(Below.refl _ _).setCell h1 u, fun k hk _ => Below.heap_setCell _ _ _ _ (by omega)⟩
theorem Within.alloc {lo hi : Nat} {a w : World} (h : Within lo hi a w) (hl : lo ≤ w.heap.size) (o : Obj) : Within lo hi a (w.alloc o) :=
  h.trans ⟨(Below.refl _ _).alloc hl o, fun _ _ hk => Below.heap_alloc _ _ _ hk⟩
theorem Within.drew {lo hi : Nat} {a w : World} (h : Within lo hi a w) : Within lo hi a w.drew := h.trans ⟨(Below.refl _ _).drew, fun _ _ _ => rfl⟩
theorem Within.mono {lo hi lo' hi' : Nat} {a w : World} (h : Within lo hi a w) (h1 : lo' ≤ lo) (h2 : hi ≤ hi') : Within lo' hi' a w := ⟨h.below.mono h1, fun k hk hs => h.above k (by omega) hs⟩
theorem info2 : (Tryd.prog.info? 2).map (fun i => (i.zero, i.size, i.bytes)) = some (some (.int .i64 0), 1, 8) := by kernel_rfl
set_option maxHeartbeats 800000 in
theorem toS_some (b off n cap : Nat) (f : Nat → Int) (w : World) (hn : n ≤ 1000000000000) (hc : ∀ i, i < n → w.cell? ⟨b, off + i, none⟩ = some (.int .i64 (f i))) :
    Calls Tryd.prog 42 #[.slice (some ⟨b, off, none⟩) n cap] w fun e w' => e = .returned (.slice (some ⟨w.heap.size, 0, none⟩) n n) ∧
      Seg w' w.heap.size 2 0 n (fun i => .int .i64 (f i)) ∧ Below w.heap.size w w' ∧ w'.heap.size = w.heap.size + 1 := by
  have hmk := run_make_row' (P := Tryd.prog) 22 2 (.int .i64 0) 8 Tryd.underlying22 info2 rfl .i64 .i64 n (by omega) (by omega)
  go_enter Tryd.func42, Tryd.ntmps42
  go_wp2_with fail
  clear hmk
  go_loopw [4] (fun i wr => ∃ k : Nat, k ≤ n ∧ i = .int .i64 k ∧ Seg wr w.heap.size 2 0 n (fun j => if j < k then .int .i64 (f j) else .int .i64 0) ∧ Below w.heap.size w wr ∧ wr.heap.size = w.heap.size + 1) (fun i _ => n - (intOf i).toNat)
  case atStart => exact ⟨0, Nat.zero_le _, rfl, (seg_made w _ n 2).congr (fun j _ => by simp), (Below.refl _ _).alloc (Nat.le_refl _) _, by simp⟩
  case round =>
    obtain ⟨k, hk, rfl, hs, hb, hz⟩ := hrel
    by_cases hkn : k < n
    · have g1 : wr.cell? ⟨b, off + k, none⟩ = some (.int .i64 (f k)) := (hb.cell (World.block_lt_of_cell? _ _ (hc k hkn))).trans (hc k hkn)
      have g2 : wr.cell? ⟨w.heap.size, k, none⟩ = some (.int .i64 0) := by simpa using hs.cell hkn
      have g3 : wr.frozen? ⟨w.heap.size, k, none⟩ = false := hs.frozen k
      have HS : Hid (Seg wr w.heap.size 2 0 n (fun j => if j < k then .int .i64 (f j) else .int .i64 0) ∧ Below w.heap.size w wr ∧ wr.heap.size = w.heap.size + 1) := ⟨hs, hb, hz⟩
      clear hs hb hz hc
      go_wp2
      go_roundw
      case rel =>
        obtain ⟨hs, hb, hz⟩ := HS.out
        refine ⟨k + 1, by omega, by simp, ?_, hb.setCell (Nat.le_refl _) _, by simpa using hz⟩
        have := hs.set k hkn (.int .i64 (f k))
        rw [Nat.zero_add] at this
        refine this.congr fun j hj => ?_
        by_cases e : j = k
        · subst e; simp
        · by_cases e2 : j < k
          · simp [e, e2, Nat.lt_succ_of_lt e2]
          · simp [e, e2]; intro h; omega
      case measure => simp [intOf]; omega
    · obtain rfl : k = n := by omega
      clear hc
      go_wp2
      go_ret
      exact ⟨rfl, hs.congr fun j hj => by simp [hj], hb, hz⟩
theorem toS_none (ao : Option Addr) (cap : Nat) (f : Nat → Int) (w : World) :
    Calls Tryd.prog 42 #[.slice ao 0 cap] w fun e w' => e = .returned (.slice (some ⟨w.heap.size, 0, none⟩) 0 0) ∧
      Seg w' w.heap.size 2 0 0 (fun i => .int .i64 (f i)) ∧ Below w.heap.size w w' ∧ w'.heap.size = w.heap.size + 1 := by
  have hmk := run_make_row' (P := Tryd.prog) 22 2 (.int .i64 0) 8 Tryd.underlying22 info2 rfl .i64 .i64 0 (by omega) (by omega)
  rw [show ((0 : Nat) : Int) = 0 from rfl] at hmk
  have hS := seg_made w (.int .i64 0) 0 2
  have hB : Below w.heap.size w (w.alloc (.cells (madeCells #[.int .i64 0] 0) 2)) := (Below.refl _ _).alloc (Nat.le_refl _) _
  go_enter Tryd.func42, Tryd.ntmps42
  go_wp2_with fail
  refine wp_loop_rounds 1 ?_
  rw [rounds_succ]
  go_wp2
  go_ret
  exact ⟨rfl, hS.congr fun j hj => absurd hj (Nat.not_lt_zero _), hB, by simp⟩
theorem toS_any {w : World} {v : Value} {n : Nat} {f : Nat → Int} (h : RdRow w v n f) (hn : n ≤ 1000000000000) :
    Calls Tryd.prog 42 #[v] w fun e w' => e = .returned (.slice (some ⟨w.heap.size, 0, none⟩) n n) ∧
      Seg w' w.heap.size 2 0 n (fun i => .int .i64 (f i)) ∧ Below w.heap.size w w' ∧ w'.heap.size = w.heap.size + 1 := by
  rcases h with ⟨ao, cap, rfl, rfl⟩ | ⟨b, off, cap, rfl, hc⟩
  · exact toS_none ao cap f w
  · exact toS_some b off n cap f w hn hc

theorem quiet_eq {P : Program} {f : FuncId} {args : Array Value} {w : World} {n : Nat} {v : Value}
    (h : Calls P f args (w.drewN n) fun e w' => e = .returned v ∧ w.drewN n = w') : Calls P f args (w.drewN n) fun e w'' => e = .returned v ∧ ∃ m, w'' = w.drewN m :=
  h.mono fun _ _ ⟨he, hm⟩ => ⟨he, n, hm.symm⟩
theorem RdRow.drewN {w : World} {v : Value} {n : Nat} {f : Nat → Int} (h : RdRow w v n f) (q : Nat) : RdRow (w.drewN q) v n f := by
  rcases h with h | ⟨b, off, cap, rfl, h⟩
  · exact Or.inl h
  · exact Or.inr ⟨b, off, cap, rfl, fun i hi => by rw [World.cell?_drewN]; exact h i hi⟩
set_option maxHeartbeats 800000 in
theorem eqS_some (b off cap b' off' cap' n : Nat) (f : Nat → Int) (w : World) (hn : n ≤ 1000000000000)
    (hc : ∀ i, i < n → w.cell? ⟨b, off + i, none⟩ = some (.int .i64 (f i))) (hc' : ∀ i, i < n → w.cell? ⟨b', off' + i, none⟩ = some (.int .i64 (f i))) :
    Calls Tryd.prog 48 #[.slice (some ⟨b, off, none⟩) n cap, .slice (some ⟨b', off', none⟩) n cap'] w fun e w' => e = .returned (.bool true) ∧ ∃ q, w' = w.drewN q := by
  go_enter Tryd.func48, Tryd.ntmps48
  go_wp2_with fail
  go_loopw [5] (fun i wr => ∃ k q : Nat, k ≤ n ∧ i = .int .i64 k ∧ wr = w.drewN q) (fun i _ => n - (intOf i).toNat)
  case atStart => exact ⟨0, 0, Nat.zero_le _, rfl, rfl⟩
  case round =>
    obtain ⟨k, q, hk, rfl, rfl⟩ := hrel
    by_cases hkn : k < n
    · have g1 := hc k hkn
      have g2 := hc' k hkn
      clear hc hc'
      go_wp2
      go_quiet (fail)
      go_wp2
      go_roundw
      case rel => exact ⟨k + 1, q + nq, by omega, by simp, by first | rfl | rw [World.drewN_drewN]⟩
      case measure => simp [intOf]; omega
    · obtain rfl : k = n := by omega
      clear hc hc'
      go_wp2
      go_ret
      exact ⟨rfl, q, rfl⟩
theorem eqS_none (ao ao' : Option Addr) (cap cap' : Nat) (w : World) :
    Calls Tryd.prog 48 #[.slice ao 0 cap, .slice ao' 0 cap'] w fun e w' => e = .returned (.bool true) ∧ ∃ q, w' = w.drewN q := by
  go_enter Tryd.func48, Tryd.ntmps48
  go_wp2_with fail
  refine wp_loop_rounds 1 ?_
  rw [rounds_succ]
  go_wp2
  go_ret
  exact ⟨rfl, 0, rfl⟩
theorem eqS_any {w : World} {v v' : Value} {n : Nat} {f : Nat → Int} (h : RdRow w v n f) (h' : RdRow w v' n f) (hn : n ≤ 1000000000000) :
    Calls Tryd.prog 48 #[v, v'] w fun e w' => e = .returned (.bool true) ∧ ∃ q, w' = w.drewN q := by
  rcases h with ⟨ao, cap, rfl, rfl⟩ | ⟨b, off, cap, rfl, hc⟩
  · rcases h' with ⟨ao', cap', rfl, _⟩ | ⟨b', off', cap', rfl, hc'⟩
    · exact eqS_none _ _ _ _ w
    · exact eqS_none _ _ _ _ w
  · rcases h' with ⟨ao', cap', rfl, rfl⟩ | ⟨b', off', cap', rfl, hc'⟩
    · exact eqS_none _ _ _ _ w
    · exact eqS_some b off cap b' off' cap' n f w hn hc hc'
set_option maxHeartbeats 800000 in
theorem markS_some (b off n cap : Nat) (f : Nat → Int) (k0 : Int) (w : World) (h0 : 0 ≤ k0) (h1 : k0 + n ≤ 1000000000000) (hs0 : Seg w b 2 off n (fun i => .int .i64 (f i))) :
    Calls Tryd.prog 55 #[.slice (some ⟨b, off, none⟩) n cap, .int .i64 k0] w fun e w' => e = .returned (.int .i64 (k0 + n)) ∧
      Seg w' b 2 off n (fun i => .int .i64 (k0 + i)) ∧ Within b (b + 1) w w' ∧ w'.heap.size = w.heap.size := by
  go_enter Tryd.func55, Tryd.ntmps55
  go_wp2_with fail
  go_loopw [1, 5] (fun q i wr => ∃ k : Nat, k ≤ n ∧ i = .int .i64 k ∧ q = .int .i64 (k0 + k) ∧ Seg wr b 2 off n (fun j => if j < k then .int .i64 (k0 + j) else .int .i64 (f j)) ∧ Within b (b + 1) w wr ∧ wr.heap.size = w.heap.size) (fun _ i _ => n - (intOf i).toNat)
  case atStart => exact ⟨0, Nat.zero_le _, rfl, by simp, hs0.congr (fun j _ => by simp), Within.refl _ _ _, rfl⟩
  case round =>
    obtain ⟨k, hk, rfl, rfl, hs, hb, hz⟩ := hrel
    clear hs0
    by_cases hkn : k < n
    · have g2 : wr.cell? ⟨b, off + k, none⟩ = some (.int .i64 (f k)) := by simpa using hs.cell hkn
      have g3 : wr.frozen? ⟨b, off + k, none⟩ = false := hs.frozen (off + k)
      have HS : Hid (Seg wr b 2 off n (fun j => if j < k then .int .i64 (k0 + j) else .int .i64 (f j)) ∧ Within b (b + 1) w wr ∧ wr.heap.size = w.heap.size) := ⟨hs, hb, hz⟩
      clear hs hb hz
      go_wp2
      go_roundw
      case rel =>
        obtain ⟨hs, hb, hz⟩ := HS.out
        refine ⟨k + 1, by omega, by simp, by simp; omega, ?_, hb.setCell (Nat.le_refl _) (Nat.lt_succ_self _) _, by simpa using hz⟩
        refine (hs.set k hkn (.int .i64 (k0 + k))).congr fun j hj => ?_
        by_cases e : j = k
        · subst e; simp
        · by_cases e2 : j < k
          · simp [e, e2, Nat.lt_succ_of_lt e2]
          · simp [e, e2]; intro h; omega
      case measure => simp [intOf]; omega
    · obtain rfl : k = n := by omega
      go_wp2
      go_ret
      exact ⟨rfl, hs.congr fun j hj => by simp [hj], hb, hz⟩
theorem markS_none (ao : Option Addr) (cap : Nat) (k0 : Int) (w : World) : Calls Tryd.prog 55 #[.slice ao 0 cap, .int .i64 k0] w fun e w' => e = .returned (.int .i64 k0) ∧ w = w' := by
  go_enter Tryd.func55, Tryd.ntmps55
  go_wp2_with fail
  refine wp_loop_rounds 1 ?_
  rw [rounds_succ]
  go_wp2
  go_ret
  exact ⟨rfl, rfl⟩
set_option maxHeartbeats 800000 in
theorem heldS_some (b off n cap : Nat) (k0 : Int) (w : World) (h0 : 0 ≤ k0) (h1 : k0 + n ≤ 1000000000000) (hc : ∀ i : Nat, i < n → w.cell? ⟨b, off + i, none⟩ = some (.int .i64 (k0 + i))) :
    Calls Tryd.prog 76 #[.slice (some ⟨b, off, none⟩) n cap, .int .i64 k0] w fun e w' => e = .returned (.int .i64 (k0 + n)) ∧ w = w' := by
  go_enter Tryd.func76, Tryd.ntmps76
  go_wp2_with fail
  go_loopw [1, 5] (fun q i wr => wr = w ∧ ∃ k : Nat, k ≤ n ∧ i = .int .i64 k ∧ q = .int .i64 (k0 + k)) (fun _ i _ => n - (intOf i).toNat)
  case atStart => exact ⟨rfl, 0, Nat.zero_le _, rfl, by simp⟩
  case round =>
    obtain ⟨rfl, k, hk, rfl, rfl⟩ := hrel
    by_cases hkn : k < n
    · have g := hc k hkn
      clear hc
      go_wp2
      go_roundw
      case rel => exact ⟨by trivial, k + 1, by omega, by simp, by simp; omega⟩
      case measure => simp [intOf]; omega
    · obtain rfl : k = n := by omega
      clear hc
      go_wp2
      go_ret
      exact ⟨rfl, rfl⟩
theorem heldS_none (ao : Option Addr) (cap : Nat) (k0 : Int) (w : World) : Calls Tryd.prog 76 #[.slice ao 0 cap, .int .i64 k0] w fun e w' => e = .returned (.int .i64 k0) ∧ w = w' := by
  go_enter Tryd.func76, Tryd.ntmps76
  go_wp2_with fail
  refine wp_loop_rounds 1 ?_
  rw [rounds_succ]
  go_wp2
  go_ret
  exact ⟨rfl, rfl⟩
/-- The blocks from lo on, below hi, are as they were. -/
def Keep (lo hi : Nat) (w w' : World) : Prop := ∀ k, lo ≤ k → k < hi → w'.heap[k]? = w.heap[k]?
theorem Keep.trans {lo hi : Nat} {a b c : World} (h : Keep lo hi a b) (k : Keep lo hi b c) : Keep lo hi a c := fun i h1 h2 => (k i h1 h2).trans (h i h1 h2)
theorem Keep.of {B lo hi : Nat} {w w' : World} (h : Below B w w') (hB : hi ≤ B) : Keep lo hi w w' := fun k _ hk => h.block k (by omega)
theorem Keep.refl (lo hi : Nat) (w : World) : Keep lo hi w w := fun _ _ _ => rfl
theorem Keep.over {lo hi lo' hi' : Nat} {w w' : World} (h : Within lo' hi' w w') (h1 : hi' ≤ lo) (h2 : hi ≤ w.heap.size) : Keep lo hi w w' := fun k hk hk2 => h.above k (by omega) (by omega)
theorem Keep.under {lo hi lo' hi' : Nat} {w w' : World} (h : Within lo' hi' w w') (h1 : hi ≤ lo') : Keep lo hi w w' := fun k _ hk2 => h.below.block k (by omega)
theorem RdRow.shape {w : World} {v : Value} {n : Nat} {f : Nat → Int} (h : RdRow w v n f) : ∃ ao cap, v = .slice ao n cap := by
  rcases h with ⟨ao, cap, rfl, rfl⟩ | ⟨b, off, cap, rfl, _⟩
  · exact ⟨ao, cap, rfl⟩
  · exact ⟨_, cap, rfl⟩
end Go.Proofs.YtndfncjoknibaaaDoor
