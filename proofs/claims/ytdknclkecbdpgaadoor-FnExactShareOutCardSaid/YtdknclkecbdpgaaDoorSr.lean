/- What ShareOut answers: compared, marked, looked at. -/
import Derived.Test.YtdknclkecbdpgaaDoorSq
namespace Go.Proofs.YtdknclkecbdpgaaDoor
open Go.RowKit
set_option linter.unusedVariables false
set_option linter.unusedSimpArgs false
namespace OwP
variable {lo hi : Nat} {w w' : World} {v : Value} {n : Nat} {G : Nat → Sh}
theorem later (h : OwP lo hi w v n G) (b : Below w.heap.size w w') : OwP lo hi w' v n G := by
  rcases h with h | ⟨g, cap, rfl, h1, h2, h3⟩
  · exact Or.inl h
  · exact Or.inr ⟨g, cap, rfl, h1, h2, h3.below b⟩
theorem under (h : OwP lo hi w v n G) {a c : Nat} (b : Within a c w w') (hh : hi ≤ a ∨ c ≤ lo) : OwP lo hi w' v n G := by
  rcases h with h | ⟨g, cap, rfl, h1, h2, h3⟩
  · exact Or.inl h
  · refine Or.inr ⟨g, cap, rfl, h1, h2, h3.of_block ?_⟩
    rcases hh with hh | hh
    · exact b.below.block g (by omega)
    · exact b.above g (by omega) h3.lt
theorem form (h : OwP lo hi w v n G) : ∃ ao cap, v = .slice ao n cap := by
  rcases h with ⟨rfl, rfl⟩ | ⟨g, cap, rfl, _⟩
  · exact ⟨none, 0, rfl⟩
  · exact ⟨_, cap, rfl⟩
end OwP
theorem eqS_own {lo hi lo' hi' : Nat} {w : World} {v v' : Value} {n : Nat} {G : Nat → Sh} (h : OwP lo hi w v n G) (h' : OwP lo' hi' w v' n G) (hn : n ≤ 1000000) : Calls Tryd.prog 73 #[v, v'] w fun e w' => e = .returned (.bool true) ∧ Below w.heap.size w w' := by
  have z : ∀ (ao ao' : Option Addr) (cap cap' : Nat), Calls Tryd.prog 73 #[.slice ao 0 cap, .slice ao' 0 cap'] w fun e w' => e = .returned (.bool true) ∧ Below w.heap.size w w' := fun ao ao' cap cap' => (eqSh_none ao ao' cap cap' w).mono fun _ _ h => ⟨h.1, by rw [← h.2]; exact Below.refl _ _⟩
  rcases h with ⟨rfl, rfl⟩ | ⟨g, cap, rfl, _, _, h3⟩
  · obtain ⟨ao, cp, rfl⟩ := h'.form
    exact z _ _ _ _
  · rcases h' with ⟨rfl, rfl⟩ | ⟨g', cap', rfl, _, _, h3'⟩
    · exact z _ _ _ _
    · exact eqShs_same g cap g' cap' n G w (by omega) h3 h3'
theorem markS_own {lo hi : Nat} {w : World} {v : Value} {n : Nat} {G : Nat → Sh} (h : OwP lo hi w v n G) (hn : n ≤ 1000000) : Calls Tryd.prog 74 #[v, .int .i64 1] w fun e w' => e = .returned (.int .i64 (mS 1 n)) ∧ OwP lo hi w' v n (fun i => msh (mS 1 i)) ∧ Within lo hi w w' ∧ w'.heap.size = w.heap.size := by
  rcases h with ⟨rfl, rfl⟩ | ⟨g, cap, rfl, h1, h2, h3⟩
  · refine (markSh_none none 0 1 w).mono ?_
    rintro e w' ⟨rfl, rfl⟩
    exact ⟨rfl, Or.inl ⟨rfl, rfl⟩, Within.refl _ _ _, rfl⟩
  · refine (markSh_some g n cap 1 _ w (by omega) (by omega) (by omega) h3).mono ?_
    rintro e w' ⟨rfl, a, b, c⟩
    exact ⟨rfl, Or.inr ⟨g, cap, rfl, h1, h2, a⟩, b.mono h1 (by omega), c⟩
theorem heldS_own {lo hi : Nat} {w : World} {v : Value} {n : Nat} (h : OwP lo hi w v n (fun i => msh (mS 1 i))) (hn : n ≤ 1000000) : Calls Tryd.prog 114 #[v, .int .i64 1] w fun e w' => e = .returned (.int .i64 (mS 1 n)) ∧ Below w.heap.size w w' := by
  rcases h with ⟨rfl, rfl⟩ | ⟨g, cap, rfl, h1, h2, h3⟩
  · exact (heldSh_none none 0 1 w).mono fun _ _ h => ⟨h.1, by rw [← h.2]; exact Below.refl _ _⟩
  · exact (heldSh_some g n cap 1 w (by omega) (by omega) (by omega) h3).mono fun _ _ h => ⟨h.1, by rw [← h.2]; exact Below.refl _ _⟩
set_option maxRecDepth 20000 in
theorem eqSR_same {lo hi lo' hi' : Nat} {w : World} {v v' : Value} {n : Nat} {G : Nat → Sh} {c : Int} (h : OwP lo hi w v n G) (h' : OwP lo' hi' w v' n G) (hn : n ≤ 1000000) :
    Calls Tryd.prog 67 #[.agg #[.int .i64 c, v], .agg #[.int .i64 c, v']] w fun e w' => e = .returned (.bool true) ∧ Below w.heap.size w w' := by
  have HR : Hid (∀ W, Below w.heap.size w W → Calls Tryd.prog 73 #[v, v'] W fun e w' => e = .returned (.bool true) ∧ Below W.heap.size W w') := fun W b => eqS_own (h.later b) (h'.later b) hn
  clear h h'
  obtain ⟨w2, hw2⟩ : ∃ W, W = (w.alloc (.cells #[.int .i64 c, v] 29)).alloc (.cells #[.int .i64 c, v'] 29) := ⟨_, rfl⟩
  have B : Hid (Below w.heap.size w w2) := by show Below _ _ _; rw [hw2]; exact ((Below.refl _ _).alloc (Nat.le_refl _) _).alloc (by simp) _
  go_enter Tryd.func67, Tryd.ntmps67
  go_wp2_with fail
  rw [← hw2]
  refine (HR.out _ B.out).mono ?_
  rintro e w3 ⟨rfl, b⟩
  have HB : Hid (Below w.heap.size w w3) := B.out.trans (b.mono B.out.size)
  clear hw2 B b HR
  go_wp2
  go_ret
  exact ⟨rfl, HB.out⟩
set_option maxRecDepth 20000 in
theorem markSR_own {lo hi : Nat} {w : World} {v : Value} {n : Nat} {G : Nat → Sh} {c : Int} (h : OwP lo hi w v n G) (hl : lo ≤ w.heap.size) (hn : n ≤ 1000000) :
    Calls Tryd.prog 68 #[.agg #[.int .i64 c, v], .int .i64 1] w fun e w' => e = .returned (.int .i64 (mS 1 n)) ∧ OwP lo hi w' v n (fun i => msh (mS 1 i)) ∧ Within lo hi w w' ∧ w.heap.size ≤ w'.heap.size := by
  obtain ⟨w2, hw2⟩ : ∃ W, W = w.alloc (.cells #[.int .i64 c, v] 29) := ⟨_, rfl⟩
  have hb : Below w.heap.size w w2 := by rw [hw2]; exact (Below.refl _ _).alloc (Nat.le_refl _) _
  have W0 : Within lo hi w w2 := (Within.refl lo hi w).later hb hl
  have HM : Hid (Calls Tryd.prog 74 #[v, .int .i64 1] w2 fun e w' => e = .returned (.int .i64 (mS 1 n)) ∧ (OwP lo hi w' v n (fun i => msh (mS 1 i)) ∧ Within lo hi w w' ∧ w.heap.size ≤ w'.heap.size)) := by
    refine (markS_own (h.later hb) hn).mono ?_
    rintro e w' ⟨rfl, a, b, z⟩
    exact ⟨rfl, a, W0.trans b, by have := hb.size; omega⟩
  clear h hb W0
  go_enter Tryd.func68, Tryd.ntmps68
  go_wp2_with fail
  rw [← hw2]
  refine HM.out.mono ?_
  rintro e w3 ⟨rfl, h9⟩
  replace h9 : Hid _ := h9
  go_wp2
  go_ret
  exact ⟨rfl, h9.out⟩
theorem heldSR_own {lo hi : Nat} {w : World} {v : Value} {n : Nat} {c : Int} (h : OwP lo hi w v n (fun i => msh (mS 1 i))) (hn : n ≤ 1000000) :
    Calls Tryd.prog 69 #[.agg #[.int .i64 c, v], .int .i64 1] w fun e w' => e = .returned (.int .i64 (mS 1 n)) ∧ Below w.heap.size w w' := by
  obtain ⟨w2, hw2⟩ : ∃ W, W = w.alloc (.cells #[.int .i64 c, v] 29) := ⟨_, rfl⟩
  have hb : Below w.heap.size w w2 := by rw [hw2]; exact (Below.refl _ _).alloc (Nat.le_refl _) _
  obtain ⟨M, hM⟩ : ∃ M : Int, M = mS 1 n := ⟨_, rfl⟩
  have hM0 : ¬ M < 0 := by rw [hM]; unfold mS; omega
  have HM : Hid (Calls Tryd.prog 114 #[v, .int .i64 1] w2 fun e w' => e = .returned (.int .i64 M) ∧ Below w2.heap.size w2 w') := by
    rw [hM]
    exact heldS_own (h.later hb) hn
  rw [← hM]
  have HB : Hid (Below w.heap.size w w2) := hb
  clear h hb hM
  go_enter Tryd.func69, Tryd.ntmps69
  go_wp2_with fail
  rw [← hw2]
  clear hw2
  refine HM.out.mono ?_
  rintro e w3 ⟨rfl, b3⟩
  have HB3 : Hid (Below w.heap.size w w3) := HB.out.trans (b3.mono HB.out.size)
  clear b3
  go_wp2
  go_ret
  exact ⟨rfl, HB3.out⟩
theorem OwS.cellsOfI {t : TypeId} {lo hi : Nat} {w : World} {g n cap : Nat} {F : Nat → Value} (h : OwS t lo hi w (.slice (some ⟨g, 0, none⟩) n cap) n F) : ∀ i, i < n → w.cell? ⟨g, 0 + i, none⟩ = some (F i) := by
  rcases h with ⟨e, _⟩ | ⟨g', cp, e, _, _, hs⟩
  · cases e
  · cases e
    exact fun i hi => hs.cell hi
end Go.Proofs.YtdknclkecbdpgaaDoor
