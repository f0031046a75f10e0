/- Photons split by coins: plainly; the coins as a closure; the program's splitBy. -/
import Derived.Test.YtkkajcdjkfbcgaaLz
import Derived.Handy
import Derived.Deep.RegionHeld3
namespace Go.Proofs.Ytkkajcdjkfbcgaa
open Go.RowKit
set_option linter.unusedVariables false
set_option linter.unusedSimpArgs false
/-- How many of the first k coins are below num. -/
def ca (s m num : Int) : Nat → Int
  | 0 => 0
  | k + 1 => ca s m num k + (if cx s (k + 1) % m < num then 1 else 0)
theorem ca_bd (s m num : Int) : ∀ k : Nat, 0 ≤ ca s m num k ∧ ca s m num k ≤ k
  | 0 => by simp [ca]
  | k + 1 => by
    have := ca_bd s m num k
    unfold ca
    split <;> omega
structure Sgood (n num m s : Int) : Prop where
  n0 : 0 ≤ n
  n1 : n ≤ 4096
  m0 : 1 ≤ m
  m1 : m ≤ 1000000
  q0 : 0 ≤ num
  q1 : num ≤ m
  s0 : 0 ≤ s
  s1 : s < 2147483647
theorem Sgood.ck {n num m s : Int} (h : Sgood n num m s) : Ck s n m := ⟨h.n0, h.n1, h.m0, by have := h.m1; omega, h.s0, h.s1⟩
abbrev Kv (c f g l : Int) : Value := .agg #[.int .i64 c, .int .i64 f, .int .i64 g, .int .i64 l]
abbrev Kl (p : Nat) : Value := .func (.func 120) #[] #[.pointer (some ⟨p, 0, none⟩)]
theorem coinsFrom_any (s : Int) (w : World) : Calls Try.prog 86 #[.int .i64 s] w fun e w' => e = .returned (Kl w.heap.size) ∧ w' = w.alloc (.cells #[.int .i64 s] 2) := by
  go_enter Try.func86, Try.ntmps86
  go_wp2
  go_ret
  exact ⟨rfl, rfl⟩
set_option maxRecDepth 20000 in
set_option maxHeartbeats 1600000 in
theorem draw_any {s n m c l : Int} {N : Nat} {F : Nat → Int} (hC : ∀ W, FX 121 #[.int .i64 s, .int .i64 n, .int .i64 m] W c N F l) (p : Nat) (w : World) (h : Blk w p #[.int .i64 s] 2) :
    Calls Try.prog 120 #[.int .i64 n, .int .i64 m, .pointer (some ⟨p, 0, none⟩)] w fun e w' => ∃ v, e = .returned (Fx c v l) ∧ OwS 2 w.heap.size w'.heap.size w' v N (fun i => .int .i64 (F i)) ∧ Within p (p + 1) w w' ∧ Blk w' p #[.int .i64 l] 2 := by
  have hp := h.lt
  have HC : Hid (∀ W, FX 121 #[.int .i64 s, .int .i64 n, .int .i64 m] W c N F l) := hC
  obtain ⟨w0, hw0⟩ : ∃ W, W = w.alloc (.cells #[.int .i64 0, .slice none 0 0, .int .i64 0] 57) := ⟨_, rfl⟩
  have H0 : Hid (Blk w0 p #[.int .i64 s] 2 ∧ Blk w0 w.heap.size #[.int .i64 0, .slice none 0 0, .int .i64 0] 57 ∧ Below w.heap.size w w0 ∧ w.heap.size + 1 ≤ w0.heap.size) := by
    rw [hw0]
    exact ⟨h.alloc _, Blk.new rfl, (Below.refl _ _).alloc (Nat.le_refl _) _, by simp⟩
  clear hC h
  go_enter Try.func120, Try.ntmps120
  go_upto_region 1 with fail
  rw [← hw0]
  clear hw0
  have c0 := H0.out.1.cell (j := 0) (v := .int .i64 s) rfl
  go_wp2_with fail
  refine (HC.out w0).mono ?_
  rintro e w1 ⟨v, rfl, ho, b⟩
  obtain ⟨ao, cap, rfl⟩ := ho.form
  obtain ⟨w2, hw2⟩ : ∃ W, W = w1.alloc (.cells #[.int .i64 c, .slice ao N cap, .int .i64 l] 57) := ⟨_, rfl⟩
  have H2 : Hid (Blk w2 p #[.int .i64 s] 2 ∧ Blk w2 w.heap.size #[.int .i64 0, .slice none 0 0, .int .i64 0] 57 ∧ Blk w2 w1.heap.size #[.int .i64 c, .slice ao N cap, .int .i64 l] 57 ∧ Below w.heap.size w w2 ∧ w.heap.size + 1 ≤ w1.heap.size ∧ OwS 2 (w.heap.size + 1) w1.heap.size w2 (.slice ao N cap) N (fun i => .int .i64 (F i))) := by
    have b2 : Below w1.heap.size w1 w2 := by rw [hw2]; exact (Below.refl _ _).alloc (Nat.le_refl _) _
    refine ⟨(H0.out.1.later b).later b2, (H0.out.2.1.later b).later b2, by rw [hw2]; exact Blk.new rfl, (H0.out.2.2.1.trans (b.mono H0.out.2.2.1.size)).trans (b2.mono (by have := H0.out.2.2.2; have := b.size; omega)), by have := H0.out.2.2.2; have := b.size; omega, ?_⟩
    have hl := ho.later b2
    rcases hl with ⟨e1, e2⟩ | ⟨g, cp, e1, h1, h2, h3⟩
    · exact Or.inl ⟨e1, e2⟩
    · exact Or.inr ⟨g, cp, e1, by have := H0.out.2.2.2; omega, h2, h3⟩
  have hz : w.heap.size + 1 ≤ w1.heap.size := H2.out.2.2.2.2.1
  clear ho b c0 H0 HC
  go_upto_region 2 with fail
  rw [← hw2]
  clear hw2
  have c0 := H2.out.1.cell (j := 0) (v := .int .i64 s) rfl
  have k0 := H2.out.1.frozen 0
  have d0 := H2.out.2.1.cell (j := 0) (v := .int .i64 0) rfl
  have d1 := H2.out.2.1.cell (j := 1) (v := .slice none 0 0) rfl
  have d2 := H2.out.2.1.cell (j := 2) (v := .int .i64 0) rfl
  have f0 := H2.out.2.1.frozen 0
  have f1 := H2.out.2.1.frozen 1
  have f2 := H2.out.2.1.frozen 2
  have g0 := H2.out.2.2.1.cell (j := 0) (v := .int .i64 c) rfl
  have g1 := H2.out.2.2.1.cell (j := 1) (v := .slice ao N cap) rfl
  have g2 := H2.out.2.2.1.cell (j := 2) (v := .int .i64 l) rfl
  have n1 : ¬ p = w.heap.size := by omega
  have n2 : ¬ w.heap.size = p := by omega
  have n3 : ¬ w1.heap.size = p := by omega
  have n4 : ¬ p = w1.heap.size := by omega
  go_wp2
  refine bodyPost_ret (v := Fx c (.slice ao N cap) l) (by simp [results, Try.results120, go_sem, d0, d1, d2]) rfl ⟨_, rfl, ?_, ?_, ?_⟩
  · obtain ⟨-, -, h3, -, h5, h6⟩ := H2.out
    rcases h6 with ⟨e1, e2⟩ | ⟨g, cp, e1, q1, q2, q3⟩
    · exact Or.inl ⟨e1, e2⟩
    · have := h3.lt
      exact Or.inr ⟨g, cp, e1, by omega, by simp; omega, (((q3.setOther (by simp; omega) _).setOther (by simp; omega) _).setOther (by simp; omega) _).setOther (by simp; omega) _⟩
  · obtain ⟨h1, h2, h3, h4, h5, h6⟩ := H2.out
    have W0 : Within p (p + 1) w w2 := (Within.refl p (p + 1) w).later h4 (by omega)
    have W1 := W0.setCell (p := ⟨p, 0, none⟩) (by simp) (by simp) (.int .i64 l)
    refine ⟨(((W1.below.setCell (by simp; omega) _).setCell (by simp; omega) _).setCell (by simp; omega) _), fun k hk hs => ?_⟩
    rw [Below.heap_setCell _ _ _ _ (by simp; omega), Below.heap_setCell _ _ _ _ (by simp; omega), Below.heap_setCell _ _ _ _ (by simp; omega)]
    exact W1.above k hk hs
  · obtain ⟨h1, h2, h3, h4, h5, h6⟩ := H2.out
    exact (((h1.set 0 (.int .i64 l) rfl).setOther (by simp; omega) _).setOther (by simp; omega) _).setOther (by simp; omega) _
end Go.Proofs.Ytkkajcdjkfbcgaa
