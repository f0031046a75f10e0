/- Frames and their answers: compared, marked, looked at. -/
import Derived.Test.YtdknclkecbdpgaaDoorRi
namespace Go.Proofs.YtdknclkecbdpgaaDoor
open Go.RowKit
set_option linter.unusedVariables false
set_option linter.unusedSimpArgs false
set_option maxRecDepth 20000 in
theorem eqFrm_same {w : World} {v v' : Value} {n : Nat} {f : Nat → Int} {kd : Int} (h : RdG w v n (cF f)) (h' : RdG w v' n (cF f)) (hn : n ≤ 1000000000000) :
    Calls Tryd.prog 34 #[.agg #[.int .i64 kd, v], .agg #[.int .i64 kd, v']] w fun e w' => e = .returned (.bool true) ∧ Below w.heap.size w w' := by
  have HR : Hid (∀ W, Below w.heap.size w W → Calls Tryd.prog 28 #[v, v'] W fun e w' => e = .returned (.bool true) ∧ Below W.heap.size W w') := fun W b => (eqB_any (h.later b) (h'.later b) hn).mono fun _ _ h => drew_below h
  clear h h'
  obtain ⟨w2, hw2⟩ : ∃ W, W = (w.alloc (.cells #[.int .i64 kd, v] 49)).alloc (.cells #[.int .i64 kd, v'] 49) := ⟨_, rfl⟩
  have B : Hid (Below w.heap.size w w2) := by show Below _ _ _; rw [hw2]; exact ((Below.refl _ _).alloc (Nat.le_refl _) _).alloc (by simp) _
  go_enter Tryd.func34, Tryd.ntmps34
  go_wp2_with fail
  rw [← hw2]
  refine (HR.out _ B.out).mono ?_
  rintro e w3 ⟨rfl, b⟩
  have HB : Hid (Below w.heap.size w w3) := B.out.trans (b.mono B.out.size)
  clear hw2 B b HR
  go_wp2
  go_ret
  exact ⟨rfl, HB.out⟩
set_option maxRecDepth 20000 in
theorem eqFr_same {w : World} {v v' : Value} {n : Nat} {f : Nat → Int} {c u kd : Int} (h : RdG w v n (cF f)) (h' : RdG w v' n (cF f)) (hn : n ≤ 1000000000000) :
    Calls Tryd.prog 40 #[.agg #[.int .i64 c, .int .i64 u, .int .i64 kd, v], .agg #[.int .i64 c, .int .i64 u, .int .i64 kd, v']] w fun e w' => e = .returned (.bool true) ∧ Below w.heap.size w w' := by
  have HR : Hid (∀ W, Below w.heap.size w W → Calls Tryd.prog 34 #[.agg #[.int .i64 kd, v], .agg #[.int .i64 kd, v']] W fun e w' => e = .returned (.bool true) ∧ Below W.heap.size W w') := fun W b => eqFrm_same (h.later b) (h'.later b) hn
  clear h h'
  obtain ⟨w2, hw2⟩ : ∃ W, W = (w.alloc (.cells #[.int .i64 c, .int .i64 u, .int .i64 kd, v] 57)).alloc (.cells #[.int .i64 c, .int .i64 u, .int .i64 kd, v'] 57) := ⟨_, rfl⟩
  have B : Hid (Below w.heap.size w w2) := by show Below _ _ _; rw [hw2]; exact ((Below.refl _ _).alloc (Nat.le_refl _) _).alloc (by simp) _
  go_enter Tryd.func40, Tryd.ntmps40
  go_wp2_with fail
  rw [← hw2]
  refine (HR.out _ B.out).mono ?_
  rintro e w3 ⟨rfl, b⟩
  have HB : Hid (Below w.heap.size w w3) := B.out.trans (b.mono B.out.size)
  clear hw2 B b HR
  go_wp2
  go_ret
  exact ⟨rfl, HB.out⟩
set_option maxRecDepth 20000 in
theorem markFrm_own {lo hi : Nat} {w : World} {v : Value} {n : Nat} {f : Nat → Int} {kd : Int} (h : OwS 5 lo hi w v n (cF f)) (hl : lo ≤ w.heap.size) (k0 : Int) (h0 : 0 ≤ k0) (h1 : k0 + n ≤ 1000000000000) :
    Calls Tryd.prog 35 #[.agg #[.int .i64 kd, v], .int .i64 k0] w fun e w' => e = .returned (.int .i64 (k0 + n)) ∧ OwS 5 lo hi w' v n (fun i => .int .u8 ((k0 + i) % 256)) ∧ Within lo hi w w' ∧ w.heap.size ≤ w'.heap.size := by
  obtain ⟨w2, hw2⟩ : ∃ W, W = w.alloc (.cells #[.int .i64 kd, v] 49) := ⟨_, rfl⟩
  have hb : Below w.heap.size w w2 := by rw [hw2]; exact (Below.refl _ _).alloc (Nat.le_refl _) _
  have W0 : Within lo hi w w2 := (Within.refl lo hi w).later hb hl
  have hl2 : lo ≤ w2.heap.size := Nat.le_trans hl hb.size
  have HM : Hid (Calls Tryd.prog 41 #[v, .int .i64 k0] w2 fun e w' => e = .returned (.int .i64 (k0 + n)) ∧ (OwS 5 lo hi w' v n (fun i => .int .u8 ((k0 + i) % 256)) ∧ Within lo hi w w' ∧ w.heap.size ≤ w'.heap.size)) := by
    refine (markB_own (h.later hb) k0 h0 h1).mono ?_
    rintro e w' ⟨rfl, a, b, z⟩
    exact ⟨rfl, a, W0.trans b, by have := hb.size; omega⟩
  clear h hb W0
  go_enter Tryd.func35, Tryd.ntmps35
  go_wp2_with fail
  rw [← hw2]
  refine HM.out.mono ?_
  rintro e w3 ⟨rfl, h9⟩
  replace h9 : Hid _ := h9
  go_wp2
  go_ret
  exact ⟨rfl, h9.out⟩
set_option maxRecDepth 20000 in
theorem markFr_own {lo hi : Nat} {w : World} {v : Value} {n : Nat} {f : Nat → Int} {c u kd : Int} (h : OwS 5 lo hi w v n (cF f)) (hl : lo ≤ w.heap.size) (k0 : Int) (h0 : 0 ≤ k0) (h1 : k0 + n ≤ 1000000000000) :
    Calls Tryd.prog 42 #[.agg #[.int .i64 c, .int .i64 u, .int .i64 kd, v], .int .i64 k0] w fun e w' => e = .returned (.int .i64 (k0 + n)) ∧ OwS 5 lo hi w' v n (fun i => .int .u8 ((k0 + i) % 256)) ∧ Within lo hi w w' ∧ w.heap.size ≤ w'.heap.size := by
  obtain ⟨w2, hw2⟩ : ∃ W, W = w.alloc (.cells #[.int .i64 c, .int .i64 u, .int .i64 kd, v] 57) := ⟨_, rfl⟩
  have hb : Below w.heap.size w w2 := by rw [hw2]; exact (Below.refl _ _).alloc (Nat.le_refl _) _
  have W0 : Within lo hi w w2 := (Within.refl lo hi w).later hb hl
  have hl2 : lo ≤ w2.heap.size := Nat.le_trans hl hb.size
  have HM : Hid (Calls Tryd.prog 35 #[.agg #[.int .i64 kd, v], .int .i64 k0] w2 fun e w' => e = .returned (.int .i64 (k0 + n)) ∧ (OwS 5 lo hi w' v n (fun i => .int .u8 ((k0 + i) % 256)) ∧ Within lo hi w w' ∧ w.heap.size ≤ w'.heap.size)) := by
    refine (markFrm_own (h.later hb) hl2 k0 h0 h1).mono ?_
    rintro e w' ⟨rfl, a, b, z⟩
    exact ⟨rfl, a, W0.trans b, by have := hb.size; omega⟩
  clear h hb W0
  go_enter Tryd.func42, Tryd.ntmps42
  go_wp2_with fail
  rw [← hw2]
  refine HM.out.mono ?_
  rintro e w3 ⟨rfl, h9⟩
  replace h9 : Hid _ := h9
  go_wp2
  go_ret
  exact ⟨rfl, h9.out⟩
theorem heldFrm_own {lo hi : Nat} {w : World} {v : Value} {n : Nat} {k0 : Int} {kd : Int} (h : OwS 5 lo hi w v n (fun i => .int .u8 ((k0 + i) % 256))) (h0 : 0 ≤ k0) (h1 : k0 + n ≤ 1000000000000) :
    Calls Tryd.prog 98 #[.agg #[.int .i64 kd, v], .int .i64 k0] w fun e w' => e = .returned (.int .i64 (k0 + n)) ∧ Below w.heap.size w w' := by
  obtain ⟨w2, hw2⟩ : ∃ W, W = w.alloc (.cells #[.int .i64 kd, v] 49) := ⟨_, rfl⟩
  have hb : Below w.heap.size w w2 := by rw [hw2]; exact (Below.refl _ _).alloc (Nat.le_refl _) _
  obtain ⟨M, hM⟩ : ∃ M : Int, M = k0 + n := ⟨_, rfl⟩
  have hM0 : ¬ M < 0 := by omega
  have HM : Hid (Calls Tryd.prog 95 #[v, .int .i64 k0] w2 fun e w' => e = .returned (.int .i64 M) ∧ Below w2.heap.size w2 w') := by
    rw [hM]
    exact (heldB_own (h.later hb) h0 h1).mono fun _ _ ⟨x1, x2⟩ => ⟨x1, by rw [← x2]; exact Below.refl _ _⟩
  rw [← hM]
  have HB : Hid (Below w.heap.size w w2) := hb
  clear h hb hM h0 h1
  go_enter Tryd.func98, Tryd.ntmps98
  go_wp2_with fail
  rw [← hw2]
  clear hw2
  refine HM.out.mono ?_
  rintro e w3 ⟨rfl, b3⟩
  have HB3 : Hid (Below w.heap.size w w3) := HB.out.trans (b3.mono HB.out.size)
  clear b3
  go_wp2
  go_ret
  exact ⟨rfl, HB3.out⟩
theorem heldFr_own {lo hi : Nat} {w : World} {v : Value} {n : Nat} {k0 : Int} {c u kd : Int} (h : OwS 5 lo hi w v n (fun i => .int .u8 ((k0 + i) % 256))) (h0 : 0 ≤ k0) (h1 : k0 + n ≤ 1000000000000) :
    Calls Tryd.prog 43 #[.agg #[.int .i64 c, .int .i64 u, .int .i64 kd, v], .int .i64 k0] w fun e w' => e = .returned (.int .i64 (k0 + n)) ∧ Below w.heap.size w w' := by
  obtain ⟨w2, hw2⟩ : ∃ W, W = w.alloc (.cells #[.int .i64 c, .int .i64 u, .int .i64 kd, v] 57) := ⟨_, rfl⟩
  have hb : Below w.heap.size w w2 := by rw [hw2]; exact (Below.refl _ _).alloc (Nat.le_refl _) _
  obtain ⟨M, hM⟩ : ∃ M : Int, M = k0 + n := ⟨_, rfl⟩
  have hM0 : ¬ M < 0 := by omega
  have HM : Hid (Calls Tryd.prog 98 #[.agg #[.int .i64 kd, v], .int .i64 k0] w2 fun e w' => e = .returned (.int .i64 M) ∧ Below w2.heap.size w2 w') := by
    rw [hM]
    exact heldFrm_own (h.later hb) h0 h1
  rw [← hM]
  have HB : Hid (Below w.heap.size w w2) := hb
  clear h hb hM h0 h1
  go_enter Tryd.func43, Tryd.ntmps43
  go_wp2_with fail
  rw [← hw2]
  clear hw2
  refine HM.out.mono ?_
  rintro e w3 ⟨rfl, b3⟩
  have HB3 : Hid (Below w.heap.size w w3) := HB.out.trans (b3.mono HB.out.size)
  clear b3
  go_wp2
  go_ret
  exact ⟨rfl, HB3.out⟩
end Go.Proofs.YtdknclkecbdpgaaDoor
