/- Results that are lists of lights: compared, marked, held. -/
import Derived.Test.YtinfbbbgfkaioaaLm
namespace Go.Proofs.Ytinfbbbgfkaioaa
open Go.RowKit
set_option linter.unusedVariables false
set_option linter.unusedSimpArgs false
theorem markLits_none (ao : Option Addr) (cap : Nat) (k0 : Int) (w : World) : Calls Try.prog 22 #[.slice ao 0 cap, .int .i64 k0] w fun e w' => e = .returned (.int .i64 k0) ∧ w = w' := by
  go_enter Try.func22, Try.ntmps22
  go_wp2_with fail
  refine wp_loop_rounds 1 ?_
  rw [rounds_succ]
  go_wp2
  go_ret
  exact ⟨rfl, rfl⟩
theorem heldLits_none (ao : Option Addr) (cap : Nat) (k0 : Int) (w : World) : Calls Try.prog 64 #[.slice ao 0 cap, .int .i64 k0] w fun e w' => e = .returned (.int .i64 k0) ∧ w = w' := by
  go_enter Try.func64, Try.ntmps64
  go_wp2_with fail
  refine wp_loop_rounds 1 ?_
  rw [rounds_succ]
  go_wp2
  go_ret
  exact ⟨rfl, rfl⟩
set_option maxRecDepth 20000 in
set_option maxHeartbeats 1600000 in
theorem heldLits_any {lo hi : Nat} {w : World} {g n cap : Nat} {L : Nat → Li} (k0 : Int) (h : OwLs lo hi w g n (mkL k0 L)) (h0 : 0 ≤ k0) (h1 : k0 ≤ 100000000) (hf : LFew n L) :
    Calls Try.prog 64 #[.slice (some ⟨g, 0, none⟩) n cap, .int .i64 k0] w fun e w' => e = .returned (.int .i64 (mLs k0 L n)) ∧ w = w' := by
  obtain ⟨PB, PC, q1, q2, q3, q4, q5⟩ := h
  have H0 : Hid (SegV w g 80 n 6 (fun i j => lcell (mkL k0 L i) (.slice (some ⟨PB i, 0, none⟩) (mkL k0 L i).np (PC i)) j) ∧ ∀ i, i < n → Seg w (PB i) 2 0 (mkL k0 L i).np (fun k => .int .i64 ((mkL k0 L i).p k))) := ⟨q3, fun i hi => (q4 i hi).2.2⟩
  have HF : Hid (LFew n L) := hf
  have hnI : (n : Int) ≤ 1048576 := by have := hf.cn; omega
  clear q1 q2 q3 q4 q5 hf
  go_enter Try.func64, Try.ntmps64
  go_wp2_with fail
  go_loopw [1, 5] (fun s1 s5 wr => wr = w ∧ ∃ i : Nat, i ≤ n ∧ s1 = .int .i64 (mLs k0 L i) ∧ s5 = .int .i64 i) (fun _ s5 _ => n - (intOf s5).toNat)
  case atStart => exact ⟨rfl, 0, Nat.zero_le _, by simp [mLs, LSm, Sm], rfl⟩
  case round =>
    obtain ⟨rfl, i, hle, rfl, rfl⟩ := hrel
    by_cases hin : i < n
    · obtain ⟨K, hK⟩ : ∃ K, K = mLs k0 L i := ⟨_, rfl⟩
      obtain ⟨m, hm⟩ : ∃ m, m = (L i).np := ⟨_, rfl⟩
      have hK0 : 0 ≤ K := by rw [hK]; have := mLs_lo k0 L i; omega
      have hK1 : K ≤ 200000000 := by rw [hK]; have := mLs_mid k0 HF.out (Nat.le_of_lt hin); omega
      have hm1 : m ≤ 1048576 := by rw [hm]; exact HF.out.each hin
      have hmI : (m : Int) ≤ 1048576 := by omega
      have HN : Hid (mLs k0 L (i + 1) = K + 1 + 1 + 1 + m + 1 + 1) := by rw [hK, hm]; exact mLs_next k0 L i
      have hiI : (i : Int) < n := by omega
      have a0 := H0.out.1.cell hin (show 0 < 6 by omega)
      have a1 := H0.out.1.cell hin (show 1 < 6 by omega)
      have a2 := H0.out.1.cell hin (show 2 < 6 by omega)
      have a3 := H0.out.1.cell hin (show 3 < 6 by omega)
      have a4 := H0.out.1.cell hin (show 4 < 6 by omega)
      have a5 := H0.out.1.cell hin (show 5 < 6 by omega)
      simp only [Nat.add_zero, lcell, mkL, ← hm, ← hK] at a0 a1 a2 a3 a4 a5
      have us : Hid (∀ q : Nat, q < m → wr.cell? ⟨PB i, 0 + q, none⟩ = some (.int .i64 (K + 1 + 1 + 1 + q))) := by
        intro q hq
        have := (H0.out.2 i hin).cell (i := q) (by show q < (L i).np; rw [← hm]; exact hq)
        rw [this, hK]
        rfl
      rw [← hK]
      clear hK hm
      go_wp2_with fail
      refine (heldS_some (PB i) 0 m (PC i) (K + 1 + 1 + 1) _ (by omega) (by omega) us.out).mono ?_
      rintro e w1 ⟨rfl, rfl⟩
      obtain ⟨K2, hK2⟩ : ∃ K2, K2 = K + 1 + 1 + 1 + (m : Int) := ⟨_, rfl⟩
      have HK2 : Hid (K2 = K + 1 + 1 + 1 + (m : Int)) := hK2
      have hk20 : 0 ≤ K2 := by omega
      have hk21 : K2 ≤ 300000000 := by omega
      rw [← hK2]
      rw [← hK2] at a4 a5
      clear hK2
      go_wp2
      go_roundw
      case rel => exact ⟨by trivial, i + 1, by omega, by rw [HN.out, ← HK2.out], by simp⟩
      case measure => simp [intOf]; omega
    · obtain rfl : n = i := by omega
      go_wp2
      go_ret
      exact ⟨rfl, rfl⟩
/-- A result with a code, to be read: a fault and nothing else, or 0 and lights. -/
def OutQ (w : World) (c : Int) (v : Value) (n : Nat) (L : Nat → Li) : Prop := (c ≠ 0 ∧ v = .slice none 0 0) ∨ (c = 0 ∧ RdL w v n L)
theorem OutQ.later {w w' : World} {c : Int} {v : Value} {n : Nat} {L : Nat → Li} (h : OutQ w c v n L) (hb : Below w.heap.size w w') : OutQ w' c v n L := by
  rcases h with h | ⟨h, h1⟩
  · exact Or.inl h
  · exact Or.inr ⟨h, h1.later hb⟩
theorem OutQ.shape {w : World} {c : Int} {v : Value} {n : Nat} {L : Nat → Li} (h : OutQ w c v n L) : ∃ ao k cap, v = .slice ao k cap := by
  rcases h with ⟨_, rfl⟩ | ⟨h, h1⟩
  · exact ⟨_, _, _, rfl⟩
  · obtain ⟨ao, cap, e⟩ := h1.shape
    exact ⟨ao, n, cap, e⟩
/-- A result with a code that owns its memory, from lo on, below hi. -/
def OwnQ (lo hi : Nat) (w : World) (c : Int) (v : Value) (n : Nat) (L : Nat → Li) : Prop := (c ≠ 0 ∧ v = .slice none 0 0) ∨ (c = 0 ∧ ∃ g cap, v = .slice (some ⟨g, 0, none⟩) n cap ∧ OwLs lo hi w g n L)
theorem OwnQ.keep {lo hi : Nat} {w w' : World} {c : Int} {v : Value} {n : Nat} {L : Nat → Li} (h : OwnQ lo hi w c v n L) (hk : Keep lo hi w w') : OwnQ lo hi w' c v n L := by
  rcases h with h | ⟨h, g, cap, rfl, hm⟩
  · exact Or.inl h
  · exact Or.inr ⟨h, g, cap, rfl, hm.keep hk⟩
theorem OwnQ.rd {lo hi : Nat} {w : World} {c : Int} {v : Value} {n : Nat} {L : Nat → Li} (h : OwnQ lo hi w c v n L) : OutQ w c v n L := by
  rcases h with h | ⟨h, g, cap, rfl, hm⟩
  · exact Or.inl h
  · exact Or.inr ⟨h, hm.rd⟩
theorem few_none (L : Nat → Li) : LFew 0 L := ⟨by omega, by show Sm _ 0 ≤ _; simp [Sm]⟩
theorem rdl_none (w : World) (ao : Option Addr) (cap : Nat) (L : Nat → Li) : RdL w (.slice ao 0 cap) 0 L := ⟨fun _ => .slice none 0 0, Or.inl ⟨ao, cap, rfl, rfl⟩, fun i hi => absurd hi (Nat.not_lt_zero _)⟩
set_option maxHeartbeats 400000 in
theorem eqQ_go {w : World} {c : Int} {ao ao' : Option Addr} {n cap cap' : Nat} {L : Nat → Li} (h1 : RdL w (.slice ao n cap) n L) (h3 : RdL w (.slice ao' n cap') n L) (hn : LFew n L) :
    Calls Try.prog 29 #[.agg #[.int .i64 c, .slice ao n cap], .agg #[.int .i64 c, .slice ao' n cap']] w fun e w' => e = .returned (.bool true) ∧ Below w.heap.size w w' := by
  have a1 : ∀ W, Below w.heap.size w W → Hid (RdL W (.slice ao n cap) n L ∧ RdL W (.slice ao' n cap') n L) := fun W hb => ⟨h1.later hb, h3.later hb⟩
  have HN : Hid (LFew n L) := hn
  clear h1 h3 hn
  go_enter Try.func29, Try.ntmps29
  go_wp2_with fail
  refine (eqLits_any (a1 _ (((Below.refl _ _).alloc (Nat.le_refl _) _).alloc (by simp) _)).out.1 (a1 _ (((Below.refl _ _).alloc (Nat.le_refl _) _).alloc (by simp) _)).out.2 HN.out).mono ?_
  rintro e w1 ⟨rfl, hb1⟩
  have HB : Hid (Below w.heap.size w w1) := by refine box_step ?_ hb1 (by simp); go_grown
  clear a1 hb1
  go_wp2
  go_ret
  exact ⟨rfl, HB.out⟩
theorem eqQ_any {w : World} {c : Int} {v v' : Value} {n : Nat} {L : Nat → Li} (h : OutQ w c v n L) (h' : OutQ w c v' n L) (hn : c = 0 → LFew n L) :
    Calls Try.prog 29 #[.agg #[.int .i64 c, v], .agg #[.int .i64 c, v']] w fun e w' => e = .returned (.bool true) ∧ Below w.heap.size w w' := by
  rcases h with ⟨h0, rfl⟩ | ⟨h0, h1⟩
  · rcases h' with ⟨_, rfl⟩ | ⟨h2, _⟩
    · exact eqQ_go (rdl_none w none 0 L) (rdl_none w none 0 L) (few_none L)
    · exact absurd h2 h0
  · rcases h' with ⟨h2, rfl⟩ | ⟨_, h3⟩
    · exact absurd h0 h2
    · obtain ⟨ao, cap, e1⟩ := h1.shape
      obtain ⟨ao', cap', e2⟩ := h3.shape
      subst e1
      subst e2
      exact eqQ_go h1 h3 (hn h0)
/-- A result that has been marked from 1 on, the next mark being r. -/
def MkdQ (lo hi : Nat) (w : World) (c : Int) (v : Value) (n : Nat) (L : Nat → Li) (r : Int) : Prop := (c ≠ 0 ∧ v = .slice none 0 0 ∧ r = 1) ∨ (c = 0 ∧ r = mLs 1 L n ∧ ∃ g cap, v = .slice (some ⟨g, 0, none⟩) n cap ∧ OwLs lo hi w g n (mkL 1 L))
theorem MkdQ.keep {lo hi : Nat} {w w' : World} {c : Int} {v : Value} {n : Nat} {L : Nat → Li} {r : Int} (h : MkdQ lo hi w c v n L r) (hk : Keep lo hi w w') : MkdQ lo hi w' c v n L r := by
  rcases h with h | ⟨h, h0, g, cap, rfl, hm⟩
  · exact Or.inl h
  · exact Or.inr ⟨h, h0, g, cap, rfl, hm.keep hk⟩
theorem MkdQ.pos {lo hi : Nat} {w : World} {c : Int} {v : Value} {n : Nat} {L : Nat → Li} {r : Int} (h : MkdQ lo hi w c v n L r) : 0 ≤ r := by
  rcases h with ⟨_, _, rfl⟩ | ⟨_, rfl, _⟩
  · omega
  · have := mLs_lo 1 L n; omega
set_option maxHeartbeats 400000 in
theorem markQ_any {lo hi : Nat} {w : World} {c : Int} {v : Value} {n : Nat} {L : Nat → Li} (h : OwnQ lo hi w c v n L) (hn : c = 0 → LFew n L) (hlo : lo ≤ w.heap.size) (hhi : hi ≤ w.heap.size) :
    Calls Try.prog 30 #[.agg #[.int .i64 c, v], .int .i64 1] w fun e w' => ∃ r, e = .returned (.int .i64 r) ∧ MkdQ lo hi w' c v n L r ∧ Within lo hi w w' := by
  rcases h with ⟨h0, rfl⟩ | ⟨rfl, g, cap, rfl, hm⟩
  · have H0 : Hid (c ≠ 0) := h0
    clear h0 hn
    go_enter Try.func30, Try.ntmps30
    go_wp2_with fail
    refine (markLits_none _ _ _ _).mono ?_
    rintro e w1 ⟨rfl, rfl⟩
    go_wp2
    go_ret
    exact ⟨1, rfl, Or.inl ⟨H0.out, rfl, rfl⟩, (Within.refl _ _ _).alloc hlo _⟩
  · have HN : Hid (LFew n L) := hn rfl
    have HM : ∀ o, Hid (OwLs lo hi (w.alloc o) g n L) := fun o => hm.keep (Keep.of ((Below.refl _ _).alloc (Nat.le_refl _) o) hhi)
    clear hm hn
    go_enter Try.func30, Try.ntmps30
    go_wp2_with fail
    refine (markLits_any 1 (HM _).out (by omega) (by omega) HN.out).mono ?_
    rintro e w1 ⟨rfl, hm1, hw1⟩
    have H1 : Hid (OwLs lo hi w1 g n (mkL 1 L) ∧ Within lo hi w w1) := ⟨hm1, ((Within.refl _ _ _).alloc hlo _).trans hw1⟩
    clear hm1 hw1 HM
    go_wp2
    go_ret
    exact ⟨_, rfl, Or.inr ⟨rfl, rfl, g, cap, rfl, H1.out.1⟩, H1.out.2⟩
set_option maxHeartbeats 400000 in
theorem heldQ_any {lo hi : Nat} {w : World} {c : Int} {v : Value} {n : Nat} {L : Nat → Li} {r : Int} (h : MkdQ lo hi w c v n L r) (hn : c = 0 → LFew n L) (hhi : hi ≤ w.heap.size) :
    Calls Try.prog 31 #[.agg #[.int .i64 c, v], .int .i64 1] w fun e w' => e = .returned (.int .i64 r) ∧ Below w.heap.size w w' := by
  rcases h with ⟨h0, rfl, rfl⟩ | ⟨rfl, hr, g, cap, rfl, hm⟩
  · clear h0 hn
    go_enter Try.func31, Try.ntmps31
    go_wp2_with fail
    refine (heldLits_none _ _ _ _).mono ?_
    rintro e w1 ⟨rfl, rfl⟩
    go_wp2
    go_ret
    exact ⟨rfl, (Below.refl _ _).alloc (Nat.le_refl _) _⟩
  · have HN : Hid (LFew n L) := hn rfl
    have HM : ∀ o, Hid (OwLs lo hi (w.alloc o) g n (mkL 1 L)) := fun o => hm.keep (Keep.of ((Below.refl _ _).alloc (Nat.le_refl _) o) hhi)
    have HR : Hid (r = mLs 1 L n) := hr
    have hr0 : 0 ≤ r := by rw [hr]; have := mLs_lo 1 L n; omega
    have hr1 : r ≤ 100000000 := by rw [hr]; have := mLs_hi 1 HN.out; omega
    clear hm hn hr
    go_enter Try.func31, Try.ntmps31
    go_wp2_with fail
    refine (heldLits_any 1 (HM _).out (by omega) (by omega) HN.out).mono ?_
    rintro e w1 ⟨rfl, rfl⟩
    rw [← HR.out]
    clear HM
    go_wp2
    go_ret
    exact ⟨rfl, (Below.refl _ _).alloc (Nat.le_refl _) _⟩
end Go.Proofs.Ytinfbbbgfkaioaa
