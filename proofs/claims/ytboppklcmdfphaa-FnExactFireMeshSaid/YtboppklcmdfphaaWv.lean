/- Results that hold a wave: compared, marked, held: contracts. -/
import Derived.Test.YtboppklcmdfphaaMods
namespace Go.Proofs.Ytboppklcmdfphaa
open Go.RowKit
set_option linter.unusedVariables false
set_option maxHeartbeats 400000 in
theorem eqW_any {w : World} {c : Int} {v v' : Value} {n : Nat} {F : Nat → Int} (h : OutL w c v n F) (h' : OutL w c v' n F) (hn : c = 0 → n ≤ 1000) :
    Calls Try.prog 37 #[.agg #[.int .i64 c, v], .agg #[.int .i64 c, v']] w fun e w' => e = .returned (.bool true) ∧ Below w.heap.size w w' := by
  rcases h with ⟨h0, rfl⟩ | ⟨h0, h1⟩
  · rcases h' with ⟨_, rfl⟩ | ⟨h2, _⟩
    · clear h0 hn
      go_enter Try.func37, Try.ntmps37
      go_wp2_with fail
      refine (eqS_none _ _ _ _ _).mono ?_
      rintro e w1 ⟨rfl, q, rfl⟩
      go_wp2
      go_ret
      exact ⟨rfl, below_drewN (((Below.refl _ _).alloc (Nat.le_refl _) _).alloc (by simp) _) _⟩
    · exact absurd h2 h0
  · rcases h' with ⟨h2, rfl⟩ | ⟨_, h3⟩
    · exact absurd h0 h2
    · subst h0
      have hn := hn rfl
      have a1 : ∀ W, Below w.heap.size w W → Hid (RdRow W v n F) := fun W hb => h1.later hb
      have a2 : ∀ W, Below w.heap.size w W → Hid (RdRow W v' n F) := fun W hb => h3.later hb
      obtain ⟨ao, cap, e1⟩ : ∃ ao cap, v = .slice ao n cap := h1.shape
      obtain ⟨ao', cap', e2⟩ : ∃ ao cap, v' = .slice ao n cap := h3.shape
      subst e1
      subst e2
      clear h1 h3
      go_enter Try.func37, Try.ntmps37
      go_wp2_with fail
      refine (eqS_any (a1 _ (((Below.refl _ _).alloc (Nat.le_refl _) _).alloc (by simp) _)).out (a2 _ (((Below.refl _ _).alloc (Nat.le_refl _) _).alloc (by simp) _)).out (by omega) ).mono ?_
      rintro e w1 ⟨rfl, q, rfl⟩
      clear a1 a2
      go_wp2
      go_ret
      exact ⟨rfl, below_drewN (((Below.refl _ _).alloc (Nat.le_refl _) _).alloc (by simp) _) _⟩
set_option maxHeartbeats 400000 in
theorem markW_any {lo hi : Nat} {w : World} {c : Int} {v : Value} {n : Nat} {F : Nat → Int} (h : OwnL lo hi w c v n F) (hn : c = 0 → n ≤ 1000) (hlo : lo ≤ w.heap.size) (hhi : hi ≤ w.heap.size) :
    Calls Try.prog 39 #[.agg #[.int .i64 c, v], .int .i64 1] w fun e w' => ∃ r, e = .returned (.int .i64 r) ∧ MkdL lo hi w' c v n r ∧ Within lo hi w w' := by
  rcases h with ⟨h0, rfl⟩ | ⟨rfl, g, cap, rfl, g1, g2, hm⟩
  · have H0 : Hid (c ≠ 0) := h0
    clear h0 hn
    go_enter Try.func39, Try.ntmps39
    go_wp2_with fail
    refine (markS_none _ _ _ _).mono ?_
    rintro e w1 ⟨rfl, rfl⟩
    go_wp2
    go_ret
    exact ⟨1, rfl, Or.inl ⟨H0.out, rfl, rfl⟩, (Within.refl _ _ _).alloc hlo _⟩
  · have hn := hn rfl
    have HM : ∀ o, Hid (Seg (w.alloc o) g 2 0 n (fun i : Nat => .int .i64 (F i))) := fun o => hm.alloc o
    clear hm
    go_enter Try.func39, Try.ntmps39
    go_wp2_with fail
    refine (markS_some _ _ _ _ _ _ _ (by omega) (by omega) (HM _).out).mono ?_
    rintro e w1 ⟨rfl, hm1, hw1, hz1⟩
    have H1 : Hid (Seg w1 g 2 0 n (fun i : Nat => .int .i64 (1 + i)) ∧ Within lo hi w w1) := ⟨hm1, ((Within.refl _ _ _).alloc hlo _).trans (hw1.mono g1 g2)⟩
    clear hm1 hw1 hz1 HM
    go_wp2
    go_ret
    exact ⟨_, rfl, Or.inr ⟨rfl, rfl, g, cap, rfl, g1, g2, H1.out.1⟩, H1.out.2⟩
set_option maxHeartbeats 400000 in
theorem heldW_any {lo hi : Nat} {w : World} {c : Int} {v : Value} {n : Nat} {r : Int} (h : MkdL lo hi w c v n r) (hn : c = 0 → n ≤ 1000) (hhi : hi ≤ w.heap.size) :
    Calls Try.prog 40 #[.agg #[.int .i64 c, v], .int .i64 1] w fun e w' => e = .returned (.int .i64 r) ∧ Below w.heap.size w w' := by
  rcases h with ⟨h0, rfl, rfl⟩ | ⟨rfl, rfl, g, cap, rfl, g1, g2, hm⟩
  · clear h0 hn
    go_enter Try.func40, Try.ntmps40
    go_wp2_with fail
    refine (heldS_none _ _ _ _).mono ?_
    rintro e w1 ⟨rfl, rfl⟩
    go_wp2
    go_ret
    exact ⟨rfl, (Below.refl _ _).alloc (Nat.le_refl _) _⟩
  · have hn := hn rfl
    have HM : ∀ o, Hid (∀ i : Nat, i < n → (w.alloc o).cell? ⟨g, 0 + i, none⟩ = some (.int .i64 (1 + i))) := fun o i hi => (hm.alloc o).cell hi
    clear hm
    go_enter Try.func40, Try.ntmps40
    go_wp2_with fail
    refine (heldS_some _ _ _ _ _ _ (by omega) (by omega) (HM _).out).mono ?_
    rintro e w1 ⟨rfl, rfl⟩
    clear HM
    go_wp2
    go_ret
    exact ⟨rfl, (Below.refl _ _).alloc (Nat.le_refl _) _⟩
end Go.Proofs.Ytboppklcmdfphaa
