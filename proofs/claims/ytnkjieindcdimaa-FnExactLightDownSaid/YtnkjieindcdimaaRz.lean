/- Results with a code and rows of one length: compared, marked, held: contracts. -/
import Derived.Test.YtnkjieindcdimaaMods
namespace Go.Proofs.Ytnkjieindcdimaa
open Go.RowKit
set_option linter.unusedVariables false
/-- A result with a code, to be read: nothing (a fault, or no row), or 0 and n rows of m numbers. -/
def OutM (w : World) (c : Int) (v : Value) (n m : Nat) (F : Rm.Mx) : Prop := ((c ≠ 0 ∨ n = 0) ∧ ∃ ao cap, v = .slice ao 0 cap) ∨ ((c = 0 ∧ 0 < n) ∧ RdMat w v n (fun _ => m) F)
theorem OutM.later {w w' : World} {c : Int} {v : Value} {n m : Nat} {F : Rm.Mx} (h : OutM w c v n m F) (hb : Below w.heap.size w w') : OutM w' c v n m F := by
  rcases h with h | ⟨h, h1⟩
  · exact Or.inl h
  · exact Or.inr ⟨h, h1.later hb⟩
theorem OutM.shape {w : World} {c : Int} {v : Value} {n m : Nat} {F : Rm.Mx} (h : OutM w c v n m F) : ∃ ao k cap, v = .slice ao k cap := by
  rcases h with ⟨_, ao, cap, rfl⟩ | ⟨_, h⟩
  · exact ⟨ao, 0, cap, rfl⟩
  · obtain ⟨ao, cap, e⟩ := h.shape
    exact ⟨ao, n, cap, e⟩
/-- A result with a code that owns its memory, from lo on, below hi. -/
def OwnM (lo hi : Nat) (w : World) (c : Int) (v : Value) (n m : Nat) (F : Rm.Mx) : Prop := ((c ≠ 0 ∨ n = 0) ∧ ∃ ao cap, v = .slice ao 0 cap) ∨ ((c = 0 ∧ 0 < n) ∧ ∃ l : Lie, v = .slice (some ⟨l.b, 0, none⟩) n l.cap ∧ Mat lo hi w l n (fun _ => m) F)
theorem OwnM.keep {lo hi : Nat} {w w' : World} {c : Int} {v : Value} {n m : Nat} {F : Rm.Mx} (h : OwnM lo hi w c v n m F) (hk : Keep lo hi w w') : OwnM lo hi w' c v n m F := by
  rcases h with h | ⟨h, l, rfl, hm⟩
  · exact Or.inl h
  · exact Or.inr ⟨h, l, rfl, hm.keep hk⟩
theorem OwnM.rd {lo hi : Nat} {w : World} {c : Int} {v : Value} {n m : Nat} {F : Rm.Mx} (h : OwnM lo hi w c v n m F) : OutM w c v n m F := by
  rcases h with h | ⟨h, l, rfl, hm⟩
  · exact Or.inl h
  · exact Or.inr ⟨h, hm.rd⟩
theorem mx_le {n m : Nat} (h : n ≤ 1000) (h2 : m ≤ 1000) : Sm (fun _ => m) n ≤ 1000000 := by
  rw [Sm_const]
  exact Nat.mul_le_mul h h2
set_option maxHeartbeats 400000 in
theorem eqM_any {w : World} {c : Int} {v v' : Value} {n m : Nat} {F : Rm.Mx} (h : OutM w c v n m F) (h' : OutM w c v' n m F) (hn : c = 0 → n ≤ 1000 ∧ m ≤ 1000) :
    Calls Try.prog 36 #[.agg #[.int .i64 c, v], .agg #[.int .i64 c, v']] w fun e w' => e = .returned (.bool true) ∧ Below w.heap.size w w' := by
  rcases h with ⟨h0, ao, cap, rfl⟩ | ⟨h0, h1⟩
  · rcases h' with ⟨_, ao', cap', rfl⟩ | ⟨h2, _⟩
    · clear h0 hn
      go_enter Try.func36, Try.ntmps36
      go_wp2_with fail
      refine (eqSS_none _ _ _ _ _).mono ?_
      rintro e w1 ⟨rfl, q, rfl⟩
      go_wp2
      go_ret
      exact ⟨rfl, below_drewN (((Below.refl _ _).alloc (Nat.le_refl _) _).alloc (by simp) _) _⟩
    · omega
  · rcases h' with ⟨h2, _⟩ | ⟨_, h3⟩
    · omega
    · obtain ⟨h0, h00⟩ := h0
      subst h0
      obtain ⟨hn, hm⟩ := hn rfl
      have a1 : ∀ W, Below w.heap.size w W → Hid (RdMat W v n (fun _ => m) F) := fun W hb => h1.later hb
      have a2 : ∀ W, Below w.heap.size w W → Hid (RdMat W v' n (fun _ => m) F) := fun W hb => h3.later hb
      obtain ⟨ao, cap, e1⟩ : ∃ ao cap, v = .slice ao n cap := h1.shape
      obtain ⟨ao', cap', e2⟩ : ∃ ao cap, v' = .slice ao n cap := h3.shape
      subst e1
      subst e2
      clear h1 h3
      go_enter Try.func36, Try.ntmps36
      go_wp2_with fail
      refine (eqSS_any (a1 _ (((Below.refl _ _).alloc (Nat.le_refl _) _).alloc (by simp) _)).out (a2 _ (((Below.refl _ _).alloc (Nat.le_refl _) _).alloc (by simp) _)).out (by omega) (fun _ _ => by omega)).mono ?_
      rintro e w1 ⟨rfl, q, rfl⟩
      clear a1 a2
      go_wp2
      go_ret
      exact ⟨rfl, below_drewN (((Below.refl _ _).alloc (Nat.le_refl _) _).alloc (by simp) _) _⟩
/-- A result that has been marked from 1 on, the next mark being r. -/
def MkdM (lo hi : Nat) (w : World) (c : Int) (v : Value) (n m : Nat) (r : Int) : Prop := ((c ≠ 0 ∨ n = 0) ∧ (∃ ao cap, v = .slice ao 0 cap) ∧ r = 1) ∨ ((c = 0 ∧ 0 < n) ∧ r = 1 + (Sm (fun _ => m) n : Nat) ∧ ∃ l : Lie, v = .slice (some ⟨l.b, 0, none⟩) n l.cap ∧ Mat lo hi w l n (fun _ => m) (fun i j => 1 + (Sm (fun _ => m) i : Nat) + j))
theorem MkdM.keep {lo hi : Nat} {w w' : World} {c : Int} {v : Value} {n m : Nat} {r : Int} (h : MkdM lo hi w c v n m r) (hk : Keep lo hi w w') : MkdM lo hi w' c v n m r := by
  rcases h with h | ⟨h, h0, l, rfl, hm⟩
  · exact Or.inl h
  · exact Or.inr ⟨h, h0, l, rfl, hm.keep hk⟩
theorem MkdM.pos {lo hi : Nat} {w : World} {c : Int} {v : Value} {n m : Nat} {r : Int} (h : MkdM lo hi w c v n m r) : 0 ≤ r := by
  rcases h with ⟨_, _, rfl⟩ | ⟨_, rfl, _⟩ <;> omega
set_option maxHeartbeats 400000 in
theorem markM_any {lo hi : Nat} {w : World} {c : Int} {v : Value} {n m : Nat} {F : Rm.Mx} (h : OwnM lo hi w c v n m F) (hn : c = 0 → n ≤ 1000 ∧ m ≤ 1000) (hlo : lo ≤ w.heap.size) (hhi : hi ≤ w.heap.size) :
    Calls Try.prog 38 #[.agg #[.int .i64 c, v], .int .i64 1] w fun e w' => ∃ r, e = .returned (.int .i64 r) ∧ MkdM lo hi w' c v n m r ∧ Within lo hi w w' := by
  rcases h with ⟨h0, ao, cap, rfl⟩ | ⟨⟨rfl, h00⟩, l, rfl, hm⟩
  · have H0 : Hid (c ≠ 0 ∨ n = 0) := h0
    clear h0 hn
    go_enter Try.func38, Try.ntmps38
    go_wp2_with fail
    refine (markSS_none _ _ _ _).mono ?_
    rintro e w1 ⟨rfl, rfl⟩
    go_wp2
    go_ret
    exact ⟨1, rfl, Or.inl ⟨H0.out, ⟨_, _, rfl⟩, rfl⟩, (Within.refl _ _ _).alloc hlo _⟩
  · obtain ⟨hn, hmm⟩ := hn rfl
    have HM : ∀ o, Hid (Mat lo hi (w.alloc o) l n (fun _ => m) F) := fun o => hm.alloc o hhi
    have hsq := mx_le hn hmm
    clear hm
    go_enter Try.func38, Try.ntmps38
    go_wp2_with fail
    refine (markSS_some (HM _).out 1 (by omega) (by omega)).mono ?_
    rintro e w1 ⟨rfl, hm1, hw1, hz1⟩
    have H1 : Hid (Mat lo hi w1 l n (fun _ => m) (fun i j => 1 + (Sm (fun _ => m) i : Nat) + j) ∧ Within lo hi w w1) := ⟨hm1, ((Within.refl _ _ _).alloc hlo _).trans hw1⟩
    clear hm1 hw1 hz1 HM
    go_wp2
    go_ret
    exact ⟨_, rfl, Or.inr ⟨⟨rfl, h00⟩, rfl, l, rfl, H1.out.1⟩, H1.out.2⟩
set_option maxHeartbeats 400000 in
theorem heldM_any {lo hi : Nat} {w : World} {c : Int} {v : Value} {n m : Nat} {r : Int} (h : MkdM lo hi w c v n m r) (hn : c = 0 → n ≤ 1000 ∧ m ≤ 1000) (hhi : hi ≤ w.heap.size) :
    Calls Try.prog 39 #[.agg #[.int .i64 c, v], .int .i64 1] w fun e w' => e = .returned (.int .i64 r) ∧ Below w.heap.size w w' := by
  rcases h with ⟨h0, ⟨ao, cap, rfl⟩, rfl⟩ | ⟨⟨rfl, h00⟩, rfl, l, rfl, hm⟩
  · clear h0 hn
    go_enter Try.func39, Try.ntmps39
    go_wp2_with fail
    refine (heldSS_none _ _ _ _).mono ?_
    rintro e w1 ⟨rfl, rfl⟩
    go_wp2
    go_ret
    exact ⟨rfl, (Below.refl _ _).alloc (Nat.le_refl _) _⟩
  · obtain ⟨hn, hmm⟩ := hn rfl
    have HM : ∀ o, Hid (Mat lo hi (w.alloc o) l n (fun _ => m) (fun i j => 1 + (Sm (fun _ => m) i : Nat) + j)) := fun o => hm.alloc o hhi
    have hsq := mx_le hn hmm
    clear hm
    go_enter Try.func39, Try.ntmps39
    go_wp2_with fail
    refine (heldSS_some 1 (HM _).out (by omega) (by omega)).mono ?_
    rintro e w1 ⟨rfl, rfl⟩
    clear HM
    go_wp2
    go_ret
    exact ⟨rfl, (Below.refl _ _).alloc (Nat.le_refl _) _⟩
end Go.Proofs.Ytnkjieindcdimaa
