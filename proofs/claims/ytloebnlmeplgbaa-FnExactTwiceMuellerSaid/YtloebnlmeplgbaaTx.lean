/- Rows that are answered: compared, marked, looked at; what stays behind marks. -/
import Derived.Test.YtloebnlmeplgbaaTw
import Derived.Test.YtloebnlmeplgbaaTl
import Derived.Handy
namespace Go.Proofs.Ytloebnlmeplgbaa
open Go.RowKit
set_option linter.unusedVariables false
set_option linter.unusedSimpArgs false
structure MH (lo hi : Nat) (W : World) (m : Lie) (F : Rm.Mx) : Prop where
  mat : Mat lo hi W m 4 (fun _ => 4) F
  top : hi ≤ W.heap.size
theorem MH.later {lo hi : Nat} {W W' : World} {m : Lie} {F : Rm.Mx} (h : MH lo hi W m F) (b : Below W.heap.size W W') : MH lo hi W' m F := ⟨h.mat.keep fun k _ hk => b.block k (Nat.lt_of_lt_of_le hk h.top), Nat.le_trans h.top b.size⟩
theorem MH.under {lo hi lo2 hi2 : Nat} {W W' : World} {m : Lie} {F : Rm.Mx} (h : MH lo hi W m F) (wi : Within lo2 hi2 W W') (hd : hi ≤ lo2 ∨ hi2 ≤ lo) : MH lo hi W' m F :=
  ⟨h.mat.keep fun k h1 h2 => by
    rcases hd with hd | hd
    · exact wi.below.block k (by omega)
    · exact wi.above k (by omega) (Nat.lt_of_lt_of_le h2 h.top), Nat.le_trans h.top wi.below.size⟩
theorem Blk.later {W W' : World} {b : Nat} {cs : Array Value} {t : TypeId} (h : Blk W b cs t) (k : Below W.heap.size W W') : Blk W' b cs t := h.old k
theorem Blk.under {lo hi b : Nat} {W W' : World} {cs : Array Value} {t : TypeId} (h : Blk W b cs t) (wi : Within lo hi W W') (hd : b < lo ∨ hi ≤ b) : Blk W' b cs t := by
  rcases hd with hd | hd
  · exact (wi.below.block b hd).trans h
  · exact (wi.above b hd h.lt).trans h
theorem eqRR (c : Int) (ao ao' : Option Addr) (n cap cap' : Nat) {L : Nat → Nat} {F : Rm.Mx} (hn : n ≤ 1000000000000) (hL : ∀ i, i < n → L i ≤ 1000000000000) (w : World) (h : RdMat w (.slice ao n cap) n L F) (h' : RdMat w (.slice ao' n cap') n L F) :
    Calls Try.prog 55 #[.agg #[.int .i64 c, .slice ao n cap], .agg #[.int .i64 c, .slice ao' n cap']] w fun e w' => e = .returned (.bool true) ∧ Below w.heap.size w w' := by
  have H : Hid (RdMat w (.slice ao n cap) n L F ∧ RdMat w (.slice ao' n cap') n L F ∧ n ≤ 1000000000000 ∧ ∀ i, i < n → L i ≤ 1000000000000) := ⟨h, h', hn, hL⟩
  clear h h' hn hL
  go_enter Try.func55, Try.ntmps55
  have B1 : Below w.heap.size w ((w.alloc (.cells #[.int .i64 c, .slice ao n cap] 42)).alloc (.cells #[.int .i64 c, .slice ao' n cap'] 42)) := by go_grown
  have R1 := H.out.1.later B1
  have R2 := H.out.2.1.later B1
  replace R1 : Hid (RdMat _ (.slice ao n cap) n L F) := R1
  replace R2 : Hid (RdMat _ (.slice ao' n cap') n L F) := R2
  go_wp2_with fail
  refine (eqSS_any R1.out R2.out H.out.2.2.1 H.out.2.2.2).mono ?_
  rintro e w1 ⟨rfl, q, rfl⟩
  go_wp2
  go_ret
  exact ⟨rfl, below_drewN (by go_grown) _⟩
theorem markRR {lo hi : Nat} {w : World} {m : Lie} {F : Rm.Mx} (c : Int) (h : MH lo hi w m F) (hlo : lo ≤ hi) : Calls Try.prog 56 #[.agg #[.int .i64 c, .slice (some ⟨m.b, 0, none⟩) 4 m.cap], .int .i64 1] w fun e w' => e = .returned (.int .i64 17) ∧
      MH lo hi w' m (fun i j => 1 + Sm (fun _ => 4) i + j) ∧ Within lo hi w w' ∧ w.heap.size ≤ w'.heap.size := by
  have H : Hid (MH lo hi w m F) := h
  have hlh := Nat.le_trans hlo h.top
  clear h
  go_enter Try.func56, Try.ntmps56
  obtain ⟨X, hX⟩ : ∃ X, X = w.alloc (.cells #[.int .i64 c, .slice (some ⟨m.b, 0, none⟩) 4 m.cap] 42) := ⟨_, rfl⟩
  have BX : Hid (Below w.heap.size w X) := by rw [hX]; exact (Below.refl _ _).alloc (Nat.le_refl _) _
  have WX : Hid (Within lo hi w X) := by rw [hX]; exact (Within.refl _ _ _).alloc hlh _
  have HX : Hid (MH lo hi X m F) := H.out.later BX.out
  have HZ : Hid (w.heap.size ≤ X.heap.size) := BX.out.size
  go_wp2_with fail
  rw [← hX]
  clear hX
  refine (markSS_some HX.out.mat 1 (by omega) (by decide)).mono ?_
  rintro e w1 ⟨rfl, h1, h2, h3⟩
  have HM : Hid (MH lo hi w1 m (fun i j => 1 + Sm (fun _ => 4) i + j)) := ⟨h1, by rw [h3]; exact HX.out.top⟩
  have HW : Hid (Within lo hi w w1) := WX.out.trans h2
  have HS : Hid (w.heap.size ≤ w1.heap.size) := by rw [h3]; exact HZ.out
  clear h1 h2 h3
  go_wp2
  go_ret
  exact ⟨rfl, HM.out, HW.out, HS.out⟩
theorem heldRR {lo hi : Nat} {w : World} {m : Lie} (c : Int) (h : MH lo hi w m (fun i j => 1 + Sm (fun _ => 4) i + j)) : Calls Try.prog 57 #[.agg #[.int .i64 c, .slice (some ⟨m.b, 0, none⟩) 4 m.cap], .int .i64 1] w fun e w' => e = .returned (.int .i64 17) ∧ Below w.heap.size w w' := by
  have H : Hid (MH lo hi w m (fun i j => 1 + Sm (fun _ => 4) i + j)) := h
  clear h
  go_enter Try.func57, Try.ntmps57
  obtain ⟨X, hX⟩ : ∃ X, X = w.alloc (.cells #[.int .i64 c, .slice (some ⟨m.b, 0, none⟩) 4 m.cap] 42) := ⟨_, rfl⟩
  have BX : Hid (Below w.heap.size w X) := by rw [hX]; exact (Below.refl _ _).alloc (Nat.le_refl _) _
  have HX : Hid (MH lo hi X m (fun i j => 1 + Sm (fun _ => 4) i + j)) := H.out.later BX.out
  have e17 : (1 : Int) + ((Sm (fun _ => 4) 4 : Nat) : Int) = 17 := by decide
  go_wp2_with fail
  rw [← hX]
  clear hX
  refine (heldSS_some 1 HX.out.mat (by omega) (by decide)).mono ?_
  rintro e w1 ⟨rfl, rfl⟩
  rw [e17]
  go_wp2
  go_ret
  exact ⟨rfl, BX.out⟩
theorem markRR_nil (c : Int) (w : World) : Calls Try.prog 56 #[.agg #[.int .i64 c, .slice none 0 0], .int .i64 1] w fun e w' => e = .returned (.int .i64 1) ∧ Below w.heap.size w w' := by
  go_enter Try.func56, Try.ntmps56
  go_wp2_with fail
  refine (markSS_none none 0 1 _).mono ?_
  rintro e w1 ⟨rfl, rfl⟩
  go_wp2
  go_ret
  exact ⟨rfl, by go_grown⟩
theorem heldRR_nil (c : Int) (w : World) : Calls Try.prog 57 #[.agg #[.int .i64 c, .slice none 0 0], .int .i64 1] w fun e w' => e = .returned (.int .i64 1) ∧ Below w.heap.size w w' := by
  go_enter Try.func57, Try.ntmps57
  go_wp2_with fail
  refine (heldSS_none none 0 1 _).mono ?_
  rintro e w1 ⟨rfl, rfl⟩
  go_wp2
  go_ret
  exact ⟨rfl, by go_grown⟩
end Go.Proofs.Ytloebnlmeplgbaa
