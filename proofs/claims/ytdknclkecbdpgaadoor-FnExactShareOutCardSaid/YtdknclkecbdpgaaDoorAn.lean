/- Answers of a code and a list: compared, marked, looked at. -/
import Derived.Test.YtdknclkecbdpgaaDoorBl
import Derived.Test.YtdknclkecbdpgaaDoorCd
namespace Go.Proofs.YtdknclkecbdpgaaDoor
open Go.RowKit
set_option linter.unusedVariables false
set_option linter.unusedSimpArgs false
/-- What is answered: a code and a list of values F in memory of its own. -/
def FB (t : TypeId) (fn : FuncId) (args : Array Value) (w : World) (c : Int) (n : Nat) (F : Nat → Value) : Prop :=
  Calls Tryd.prog fn args w fun e w' => ∃ v, e = .returned (.agg #[.int .i64 c, v]) ∧ OwS t w.heap.size w'.heap.size w' v n F ∧ Below w.heap.size w w'
set_option maxRecDepth 20000 in
theorem eqFb_same {w : World} {v v' : Value} {n : Nat} {f : Nat → Int} {c : Int} (h : RdG w v n (fun i => .int .u8 (f i))) (h' : RdG w v' n (fun i => .int .u8 (f i))) (hn : n ≤ 1000000000000) :
    Calls Tryd.prog 33 #[.agg #[.int .i64 c, v], .agg #[.int .i64 c, v']] w fun e w' => e = .returned (.bool true) ∧ Below w.heap.size w w' := by
  have HR : Hid (∀ W, Below w.heap.size w W → Calls Tryd.prog 28 #[v, v'] W fun e w' => e = .returned (.bool true) ∧ Below W.heap.size W w') := fun W b => (eqB_any (h.later b) (h'.later b) hn).mono fun _ _ h => drew_below h
  clear h h'
  obtain ⟨w2, hw2⟩ : ∃ W, W = (w.alloc (.cells #[.int .i64 c, v] 47)).alloc (.cells #[.int .i64 c, v'] 47) := ⟨_, rfl⟩
  have B : Hid (Below w.heap.size w w2) := by show Below _ _ _; rw [hw2]; exact ((Below.refl _ _).alloc (Nat.le_refl _) _).alloc (by simp) _
  go_enter Tryd.func33, Tryd.ntmps33
  go_wp2_with fail
  rw [← hw2]
  refine (HR.out _ B.out).mono ?_
  rintro e w3 ⟨rfl, b⟩
  have HB : Hid (Below w.heap.size w w3) := B.out.trans (b.mono B.out.size)
  clear hw2 B b HR
  go_wp2
  go_ret
  exact ⟨rfl, HB.out⟩
set_option maxRecDepth 20000 in
theorem markFb_own {lo hi : Nat} {w : World} {v : Value} {n : Nat} {f : Nat → Int} {c : Int} (h : OwS 5 lo hi w v n (fun i => .int .u8 (f i))) (hl : lo ≤ w.heap.size) (k0 : Int) (h0 : 0 ≤ k0) (h1 : k0 + n ≤ 1000000000000) :
    Calls Tryd.prog 36 #[.agg #[.int .i64 c, v], .int .i64 k0] w fun e w' => e = .returned (.int .i64 (k0 + n)) ∧ OwS 5 lo hi w' v n (fun i => .int .u8 ((k0 + i) % 256)) ∧ Within lo hi w w' ∧ w.heap.size ≤ w'.heap.size := by
  obtain ⟨w2, hw2⟩ : ∃ W, W = w.alloc (.cells #[.int .i64 c, v] 47) := ⟨_, rfl⟩
  have hb : Below w.heap.size w w2 := by rw [hw2]; exact (Below.refl _ _).alloc (Nat.le_refl _) _
  have W0 : Within lo hi w w2 := (Within.refl lo hi w).later hb hl
  have HM : Hid (Calls Tryd.prog 41 #[v, .int .i64 k0] w2 fun e w' => e = .returned (.int .i64 (k0 + n)) ∧ (OwS 5 lo hi w' v n (fun i => .int .u8 ((k0 + i) % 256)) ∧ Within lo hi w w' ∧ w.heap.size ≤ w'.heap.size)) := by
    refine (markB_own (h.later hb) k0 h0 h1).mono ?_
    rintro e w' ⟨rfl, a, b, z⟩
    exact ⟨rfl, a, W0.trans b, by have := hb.size; omega⟩
  clear h hb W0
  go_enter Tryd.func36, Tryd.ntmps36
  go_wp2_with fail
  rw [← hw2]
  refine HM.out.mono ?_
  rintro e w3 ⟨rfl, h9⟩
  replace h9 : Hid _ := h9
  go_wp2
  go_ret
  exact ⟨rfl, h9.out⟩
theorem heldFb_own {lo hi : Nat} {w : World} {v : Value} {n : Nat} {c : Int} {k0 : Int} (h : OwS 5 lo hi w v n (fun i => .int .u8 ((k0 + i) % 256))) (h0 : 0 ≤ k0) (h1 : k0 + n ≤ 1000000000000) :
    Calls Tryd.prog 37 #[.agg #[.int .i64 c, v], .int .i64 k0] w fun e w' => e = .returned (.int .i64 (k0 + n)) ∧ Below w.heap.size w w' := by
  obtain ⟨w2, hw2⟩ : ∃ W, W = w.alloc (.cells #[.int .i64 c, v] 47) := ⟨_, rfl⟩
  have hb : Below w.heap.size w w2 := by rw [hw2]; exact (Below.refl _ _).alloc (Nat.le_refl _) _
  obtain ⟨M, hM⟩ : ∃ M : Int, M = k0 + n := ⟨_, rfl⟩
  have hM0 : ¬ M < 0 := by omega
  have HM : Hid (Calls Tryd.prog 95 #[v, .int .i64 k0] w2 fun e w' => e = .returned (.int .i64 M) ∧ w2 = w') := by
    rw [hM]
    exact heldB_own (h.later hb) h0 h1
  rw [← hM]
  have HB : Hid (Below w.heap.size w w2) := hb
  clear h hb hM h0 h1
  go_enter Tryd.func37, Tryd.ntmps37
  go_wp2_with fail
  rw [← hw2]
  clear hw2
  refine HM.out.mono ?_
  rintro e w3 ⟨rfl, rfl⟩
  go_wp2
  go_ret
  exact ⟨rfl, HB.out⟩
set_option maxRecDepth 20000 in
theorem eqWr_same {w : World} {v v' : Value} {n : Nat} {f : Nat → Int} {c : Int} (h : RdG w v n (fun i => .int .i64 (f i))) (h' : RdG w v' n (fun i => .int .i64 (f i))) (hn : n ≤ 1000000000000) :
    Calls Tryd.prog 60 #[.agg #[.int .i64 c, v], .agg #[.int .i64 c, v']] w fun e w' => e = .returned (.bool true) ∧ Below w.heap.size w w' := by
  have HR : Hid (∀ W, Below w.heap.size w W → Calls Tryd.prog 61 #[v, v'] W fun e w' => e = .returned (.bool true) ∧ Below W.heap.size W w') := fun W b => (eqI_any (h.later b) (h'.later b) hn).mono fun _ _ h => drew_below h
  clear h h'
  obtain ⟨w2, hw2⟩ : ∃ W, W = (w.alloc (.cells #[.int .i64 c, v] 35)).alloc (.cells #[.int .i64 c, v'] 35) := ⟨_, rfl⟩
  have B : Hid (Below w.heap.size w w2) := by show Below _ _ _; rw [hw2]; exact ((Below.refl _ _).alloc (Nat.le_refl _) _).alloc (by simp) _
  go_enter Tryd.func60, Tryd.ntmps60
  go_wp2_with fail
  rw [← hw2]
  refine (HR.out _ B.out).mono ?_
  rintro e w3 ⟨rfl, b⟩
  have HB : Hid (Below w.heap.size w w3) := B.out.trans (b.mono B.out.size)
  clear hw2 B b HR
  go_wp2
  go_ret
  exact ⟨rfl, HB.out⟩
set_option maxRecDepth 20000 in
theorem markWr_own {lo hi : Nat} {w : World} {v : Value} {n : Nat} {f : Nat → Int} {c : Int} (h : OwS 2 lo hi w v n (fun i => .int .i64 (f i))) (hl : lo ≤ w.heap.size) (k0 : Int) (h0 : 0 ≤ k0) (h1 : k0 + n ≤ 1000000000000) :
    Calls Tryd.prog 63 #[.agg #[.int .i64 c, v], .int .i64 k0] w fun e w' => e = .returned (.int .i64 (k0 + n)) ∧ OwS 2 lo hi w' v n (fun i => .int .i64 (k0 + i)) ∧ Within lo hi w w' ∧ w.heap.size ≤ w'.heap.size := by
  obtain ⟨w2, hw2⟩ : ∃ W, W = w.alloc (.cells #[.int .i64 c, v] 35) := ⟨_, rfl⟩
  have hb : Below w.heap.size w w2 := by rw [hw2]; exact (Below.refl _ _).alloc (Nat.le_refl _) _
  have W0 : Within lo hi w w2 := (Within.refl lo hi w).later hb hl
  have HM : Hid (Calls Tryd.prog 62 #[v, .int .i64 k0] w2 fun e w' => e = .returned (.int .i64 (k0 + n)) ∧ (OwS 2 lo hi w' v n (fun i => .int .i64 (k0 + i)) ∧ Within lo hi w w' ∧ w.heap.size ≤ w'.heap.size)) := by
    refine (markI_own (h.later hb) k0 h0 h1).mono ?_
    rintro e w' ⟨rfl, a, b, z⟩
    exact ⟨rfl, a, W0.trans b, by have := hb.size; omega⟩
  clear h hb W0
  go_enter Tryd.func63, Tryd.ntmps63
  go_wp2_with fail
  rw [← hw2]
  refine HM.out.mono ?_
  rintro e w3 ⟨rfl, h9⟩
  replace h9 : Hid _ := h9
  go_wp2
  go_ret
  exact ⟨rfl, h9.out⟩
theorem heldWr_own {lo hi : Nat} {w : World} {v : Value} {n : Nat} {c : Int} {k0 : Int} (h : OwS 2 lo hi w v n (fun i => .int .i64 (k0 + i))) (h0 : 0 ≤ k0) (h1 : k0 + n ≤ 1000000000000) :
    Calls Tryd.prog 64 #[.agg #[.int .i64 c, v], .int .i64 k0] w fun e w' => e = .returned (.int .i64 (k0 + n)) ∧ Below w.heap.size w w' := by
  obtain ⟨w2, hw2⟩ : ∃ W, W = w.alloc (.cells #[.int .i64 c, v] 35) := ⟨_, rfl⟩
  have hb : Below w.heap.size w w2 := by rw [hw2]; exact (Below.refl _ _).alloc (Nat.le_refl _) _
  obtain ⟨M, hM⟩ : ∃ M : Int, M = k0 + n := ⟨_, rfl⟩
  have hM0 : ¬ M < 0 := by omega
  have HM : Hid (Calls Tryd.prog 112 #[v, .int .i64 k0] w2 fun e w' => e = .returned (.int .i64 M) ∧ w2 = w') := by
    rw [hM]
    exact heldI_own (h.later hb) h0 h1
  rw [← hM]
  have HB : Hid (Below w.heap.size w w2) := hb
  clear h hb hM h0 h1
  go_enter Tryd.func64, Tryd.ntmps64
  go_wp2_with fail
  rw [← hw2]
  clear hw2
  refine HM.out.mono ?_
  rintro e w3 ⟨rfl, rfl⟩
  go_wp2
  go_ret
  exact ⟨rfl, HB.out⟩
end Go.Proofs.YtdknclkecbdpgaaDoor
