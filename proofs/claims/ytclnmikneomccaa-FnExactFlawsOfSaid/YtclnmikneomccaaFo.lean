/- Flaws' answers: compared, marked, held. -/
import Derived.Test.YtclnmikneomccaaFi
import Derived.Test.YtclnmikneomccaaLo
namespace Go.Proofs.Ytclnmikneomccaa
open Go.RowKit
set_option linter.unusedVariables false
set_option linter.unusedSimpArgs false
def OutW (w : World) (c : Int) (v : Value) (L : List Fw.G) : Prop := (c ≠ 0 ∧ v = .slice none 0 0) ∨ (c = 0 ∧ ∃ lo hi, Fw.OwJ lo hi w v L.length (fget L))
theorem OutW.later {w w' : World} {c : Int} {v : Value} {L : List Fw.G} (h : OutW w c v L) (hb : Below w.heap.size w w') : OutW w' c v L := by
  rcases h with h | ⟨h, lo, hi, h1⟩
  · exact Or.inl h
  · exact Or.inr ⟨h, lo, hi, h1.later hb⟩
theorem OutW.shape {w : World} {c : Int} {v : Value} {L : List Fw.G} (h : OutW w c v L) : ∃ ao k cap, v = .slice ao k cap := by
  rcases h with ⟨_, rfl⟩ | ⟨h, lo, hi, h1⟩
  · exact ⟨_, _, _, rfl⟩
  · obtain ⟨ao, cap, e⟩ := h1.shape
    exact ⟨_, _, _, e⟩
/-- In any case a list of its own. -/
theorem OutW.any {w : World} {c : Int} {v : Value} {L : List Fw.G} (h : OutW w c v L) : ∃ lo hi, Fw.OwJ lo hi w v (if c = 0 then L.length else 0) (fget L) := by
  rcases h with ⟨h0, rfl⟩ | ⟨h0, h1⟩
  · rw [if_neg h0]
    exact ⟨0, 0, Or.inl ⟨rfl, _, _, rfl⟩⟩
  · rw [if_pos h0]
    exact h1
theorem OwnW.any {lo hi : Nat} {w : World} {c : Int} {v : Value} {L : List Fw.G} (h : OwnW lo hi w c v L) : Fw.OwJ lo hi w v (if c = 0 then L.length else 0) (fget L) := by
  rcases h with ⟨h0, rfl⟩ | ⟨h0, h1⟩
  · rw [if_neg h0]
    exact Or.inl ⟨rfl, _, _, rfl⟩
  · rw [if_pos h0]
    exact h1
theorem OwnW.keep {lo hi : Nat} {w w' : World} {c : Int} {v : Value} {L : List Fw.G} (h : OwnW lo hi w c v L) (hk : Keep lo hi w w') : OwnW lo hi w' c v L := by
  rcases h with h | ⟨h, h2⟩
  · exact Or.inl h
  · exact Or.inr ⟨h, h2.keep hk⟩
theorem OwnW.rd {lo hi : Nat} {w : World} {c : Int} {v : Value} {L : List Fw.G} (h : OwnW lo hi w c v L) : OutW w c v L := by
  rcases h with h | ⟨h, h2⟩
  · exact Or.inl h
  · exact Or.inr ⟨h, lo, hi, h2⟩
set_option maxHeartbeats 400000 in
theorem eqW_go {lo hi lo' hi' N : Nat} {w : World} {c : Int} {v v' : Value} {S : Nat → Fw.G} (h1 : Fw.OwJ lo hi w v N S) (h3 : Fw.OwJ lo' hi' w v' N S) (hn : N ≤ 1048576) :
    Calls Try.prog 30 #[.agg #[.int .i64 c, v], .agg #[.int .i64 c, v']] w fun e w' => e = .returned (.bool true) ∧ Below w.heap.size w w' := by
  obtain ⟨ao, cap, rfl⟩ := h1.shape
  obtain ⟨ao', cap', rfl⟩ := h3.shape
  have a1 : ∀ W, Below w.heap.size w W → Hid (Fw.OwJ lo hi W (.slice ao N cap) N S ∧ Fw.OwJ lo' hi' W (.slice ao' N cap') N S) := fun W hb => ⟨h1.later hb, h3.later hb⟩
  have HN : Hid (N ≤ 1048576) := hn
  clear h1 h3 hn
  go_enter Try.func30, Try.ntmps30
  go_wp2_with fail
  refine (Fw.eqJ_any (a1 _ (((Below.refl _ _).alloc (Nat.le_refl _) _).alloc (by simp) _)).out.1 (a1 _ (((Below.refl _ _).alloc (Nat.le_refl _) _).alloc (by simp) _)).out.2 (by have := HN.out; omega)).mono ?_
  rintro e w1 ⟨rfl, hb⟩
  have HB : Hid (Below w.heap.size w w1) := (((Below.refl _ _).alloc (Nat.le_refl _) _).alloc (by simp) _).trans (hb.mono (by simp; omega))
  clear a1 hb
  go_wp2
  go_ret
  exact ⟨rfl, HB.out⟩
theorem eqW_any {w : World} {c : Int} {v v' : Value} {L : List Fw.G} (h : OutW w c v L) (h' : OutW w c v' L) (hn : c = 0 → L.length ≤ 1048576) :
    Calls Try.prog 30 #[.agg #[.int .i64 c, v], .agg #[.int .i64 c, v']] w fun e w' => e = .returned (.bool true) ∧ Below w.heap.size w w' := by
  obtain ⟨lo, hi, h1⟩ := h.any
  obtain ⟨lo', hi', h2⟩ := h'.any
  refine eqW_go h1 h2 ?_
  split
  · rename_i e; exact hn e
  · omega
/-- Marked from 1 on, the next mark being r. -/
def MkdW (lo hi : Nat) (w : World) (c : Int) (v : Value) (L : List Fw.G) (r : Int) : Prop := ∃ N, N ≤ 1048576 ∧ Fw.MkJ lo hi w v N r
theorem MkdW.keep {lo hi : Nat} {w w' : World} {c : Int} {v : Value} {L : List Fw.G} {r : Int} (h : MkdW lo hi w c v L r) (hk : Keep lo hi w w') : MkdW lo hi w' c v L r := by
  obtain ⟨N, hN, h⟩ := h
  exact ⟨N, hN, h.keep hk⟩
theorem MkdW.pos {lo hi : Nat} {w : World} {c : Int} {v : Value} {L : List Fw.G} {r : Int} (h : MkdW lo hi w c v L r) : 0 ≤ r := by
  obtain ⟨N, hN, h⟩ := h
  exact h.pos
set_option maxHeartbeats 400000 in
theorem markW_any {lo hi : Nat} {w : World} {c : Int} {v : Value} {L : List Fw.G} (h : OwnW lo hi w c v L) (hn : c = 0 → L.length ≤ 1048576) (hlo : lo ≤ w.heap.size) (hhi : hi ≤ w.heap.size) :
    Calls Try.prog 33 #[.agg #[.int .i64 c, v], .int .i64 1] w fun e w' => ∃ r, e = .returned (.int .i64 r) ∧ MkdW lo hi w' c v L r ∧ Within lo hi w w' := by
  have h1 := h.any
  obtain ⟨N, hN⟩ : ∃ N, N = (if c = 0 then L.length else 0) := ⟨_, rfl⟩
  rw [← hN] at h1
  have hN2 : N ≤ 1048576 := by
    rw [hN]
    split
    · rename_i e; exact hn e
    · omega
  obtain ⟨ao, cap, rfl⟩ := h1.shape
  have HN : Hid (N ≤ 1048576) := hN2
  have a1 : ∀ W, Below w.heap.size w W → Hid (Fw.OwJ lo hi W (.slice ao N cap) N (fget L)) := fun W hb => h1.later hb
  clear h h1 hn hN hN2
  go_enter Try.func33, Try.ntmps33
  go_wp2_with fail
  refine (Fw.markJ_any (a1 _ ((Below.refl _ _).alloc (Nat.le_refl _) _)).out HN.out (by simp; omega) (by simp; omega)).mono ?_
  rintro e w1 ⟨r, rfl, hm1, hw1⟩
  have H1 : Hid (MkdW lo hi w1 c (.slice ao N cap) L r ∧ Within lo hi w w1) := ⟨⟨N, HN.out, hm1⟩, ((Within.refl _ _ _).alloc hlo _).trans hw1⟩
  clear hm1 hw1 a1
  go_wp2
  go_ret
  exact ⟨_, rfl, H1.out.1, H1.out.2⟩
set_option maxHeartbeats 400000 in
theorem heldW_any {lo hi : Nat} {w : World} {c : Int} {v : Value} {L : List Fw.G} {r : Int} (h : MkdW lo hi w c v L r) (hn : c = 0 → L.length ≤ 1048576) (hhi : hi ≤ w.heap.size) :
    Calls Try.prog 34 #[.agg #[.int .i64 c, v], .int .i64 1] w fun e w' => e = .returned (.int .i64 r) ∧ Below w.heap.size w w' := by
  obtain ⟨N, hN, h1⟩ := h
  have hr0 : 0 ≤ r := h1.pos
  obtain ⟨ao, cap, rfl⟩ := h1.2.shape
  have HN : Hid (N ≤ 1048576) := hN
  have a1 : ∀ W, Below w.heap.size w W → Hid (Fw.MkJ lo hi W (.slice ao N cap) N r) := fun W hb => ⟨h1.1, h1.2.later hb⟩
  clear h1 hn hN
  go_enter Try.func34, Try.ntmps34
  go_wp2_with fail
  refine (Fw.heldJ_any (a1 _ ((Below.refl _ _).alloc (Nat.le_refl _) _)).out HN.out).mono ?_
  rintro e w1 ⟨rfl, hb⟩
  have HB : Hid (Below w.heap.size w w1) := ((Below.refl _ _).alloc (Nat.le_refl _) _).trans (hb.mono (by simp))
  clear a1 hb
  go_wp2
  go_ret
  exact ⟨rfl, HB.out⟩
end Go.Proofs.Ytclnmikneomccaa
