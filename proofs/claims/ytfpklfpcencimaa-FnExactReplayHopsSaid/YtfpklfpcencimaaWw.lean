/- A need's copy; results that are a list of numbers with a code: compared, marked, held. -/
import Derived.Test.YtfpklfpcencimaaWy
import Derived.Test.YtfpklfpcencimaaNh
namespace Go.Proofs.Ytfpklfpcencimaa
open Go.RowKit
set_option linter.unusedVariables false
set_option linter.unusedSimpArgs false
set_option maxRecDepth 20000 in
set_option maxHeartbeats 1600000 in
theorem toNeed_any (a0 a1 a2 a3 a4 : Int) (w : World) : Calls Try.prog 16 #[.agg #[.int .i64 a0, .int .i64 a1, .int .i64 a2, .int .i64 a3, .int .i64 a4]] w fun e w' => e = .returned (.agg #[.int .i64 a0, .int .i64 a1, .int .i64 a2, .int .i64 a3, .int .i64 a4]) ∧ Below w.heap.size w w' := by
  go_enter Try.func16, Try.ntmps16
  go_wp2
  refine bodyPost_ret (v := .agg #[.int .i64 a0, .int .i64 a1, .int .i64 a2, .int .i64 a3, .int .i64 a4]) (by simp [results, Try.results16, go_sem]) rfl ⟨rfl, ?_⟩
  go_grown
/-- To be read: a fault and nothing else, or 0 and numbers. -/
def OutI (w : World) (c : Int) (v : Value) (xs : List Int) : Prop := (c ≠ 0 ∧ v = .slice none 0 0) ∨ (c = 0 ∧ RdRow w v xs.length (fun i => xs.getD i 0))
theorem OutI.later {w w' : World} {c : Int} {v : Value} {xs : List Int} (h : OutI w c v xs) (hb : Below w.heap.size w w') : OutI w' c v xs := by
  rcases h with h | ⟨h, h1⟩
  · exact Or.inl h
  · exact Or.inr ⟨h, h1.later hb⟩
theorem OutI.shape {w : World} {c : Int} {v : Value} {xs : List Int} (h : OutI w c v xs) : ∃ ao k cap, v = .slice ao k cap := by
  rcases h with ⟨_, rfl⟩ | ⟨h, h1⟩
  · exact ⟨_, _, _, rfl⟩
  · obtain ⟨ao, cap, e⟩ := h1.shape
    exact ⟨_, _, _, e⟩
/-- It owns its memory, from lo on, below hi. -/
def OwnI (lo hi : Nat) (w : World) (c : Int) (v : Value) (xs : List Int) : Prop := (c ≠ 0 ∧ v = .slice none 0 0) ∨ (c = 0 ∧ ((xs = [] ∧ ∃ ao cap, v = .slice ao 0 cap) ∨ ∃ g cap, v = .slice (some ⟨g, 0, none⟩) xs.length cap ∧ lo ≤ g ∧ g < hi ∧ Seg w g 2 0 xs.length (fun i => .int .i64 (xs.getD i 0))))
theorem OwnI.keep {lo hi : Nat} {w w' : World} {c : Int} {v : Value} {xs : List Int} (h : OwnI lo hi w c v xs) (hk : Keep lo hi w w') : OwnI lo hi w' c v xs := by
  rcases h with h | ⟨h, h2 | ⟨g, cap, rfl, h1, h2, hm⟩⟩
  · exact Or.inl h
  · exact Or.inr ⟨h, Or.inl h2⟩
  · exact Or.inr ⟨h, Or.inr ⟨g, cap, rfl, h1, h2, hm.of_block (hk g h1 h2)⟩⟩
theorem OwnI.rd {lo hi : Nat} {w : World} {c : Int} {v : Value} {xs : List Int} (h : OwnI lo hi w c v xs) : OutI w c v xs := by
  rcases h with h | ⟨h, ⟨rfl, ao, cap, rfl⟩ | ⟨g, cap, rfl, h1, h2, hm⟩⟩
  · exact Or.inl h
  · exact Or.inr ⟨h, Or.inl ⟨ao, cap, rfl, rfl⟩⟩
  · exact Or.inr ⟨h, hm.rd⟩
/-- What a list of its own is as an answer. -/
theorem OwnI.of {lo hi : Nat} {w : World} {v : Value} {xs : List Int} (h : Ol w lo v xs) (hh : w.heap.size ≤ hi) : OwnI lo hi w 0 v xs := by
  refine Or.inr ⟨rfl, ?_⟩
  obtain ⟨_, h1 | ⟨g, cap, cur, hv, hg, hb, h1, h2, h3, h4⟩⟩ := h
  · refine Or.inl ⟨List.length_eq_zero_iff.1 h1.2, none, 0, h1.1⟩
  · refine Or.inr ⟨g, cap, hv, hg, Nat.lt_of_lt_of_le (Array.getElem?_eq_some_iff.1 hb).1 hh, cur, hb, fun i hi => ?_⟩
    have e : (cur.toList.take (xs.length * 1))[i]? = (ints xs)[i]? := by rw [h4]
    rw [List.getElem?_take_of_lt (by omega), ints_at xs i hi] at e
    rw [Nat.zero_add, ← Array.getElem?_toList]
    exact e
set_option maxHeartbeats 400000 in
theorem eqI_go {w : World} {c : Int} {v v' : Value} {n : Nat} {f : Nat → Int} (h1 : RdRow w v n f) (h3 : RdRow w v' n f) (hn : n ≤ 1048576) :
    Calls Try.prog 19 #[.agg #[.int .i64 c, v], .agg #[.int .i64 c, v']] w fun e w' => e = .returned (.bool true) ∧ Below w.heap.size w w' := by
  obtain ⟨ao, cap, rfl⟩ := h1.shape
  obtain ⟨ao', cap', rfl⟩ := h3.shape
  have a1 : ∀ W, Below w.heap.size w W → Hid (RdRow W (.slice ao n cap) n f ∧ RdRow W (.slice ao' n cap') n f) := fun W hb => ⟨h1.later hb, h3.later hb⟩
  have HN : Hid (n ≤ 1048576) := hn
  clear h1 h3 hn
  go_enter Try.func19, Try.ntmps19
  go_wp2_with fail
  refine (eqS_any (a1 _ (((Below.refl _ _).alloc (Nat.le_refl _) _).alloc (by simp) _)).out.1 (a1 _ (((Below.refl _ _).alloc (Nat.le_refl _) _).alloc (by simp) _)).out.2 (by have := HN.out; omega)).mono ?_
  rintro e w1 ⟨rfl, q, rfl⟩
  clear a1
  go_wp2
  go_ret
  exact ⟨rfl, below_drewN (((Below.refl _ _).alloc (Nat.le_refl _) _).alloc (by simp) _) _⟩
theorem eqI_any {w : World} {c : Int} {v v' : Value} {xs : List Int} (h : OutI w c v xs) (h' : OutI w c v' xs) (hn : c = 0 → xs.length ≤ 1048576) :
    Calls Try.prog 19 #[.agg #[.int .i64 c, v], .agg #[.int .i64 c, v']] w fun e w' => e = .returned (.bool true) ∧ Below w.heap.size w w' := by
  rcases h with ⟨h0, rfl⟩ | ⟨h0, h1⟩
  · rcases h' with ⟨_, rfl⟩ | ⟨h2, _⟩
    · exact eqI_go (RdRow.nil w fun _ => 0) (RdRow.nil w fun _ => 0) (by omega)
    · exact absurd h2 h0
  · rcases h' with ⟨h2, rfl⟩ | ⟨_, h3⟩
    · exact absurd h0 h2
    · exact eqI_go h1 h3 (hn h0)
/-- Marked from 1 on, the next mark being r. -/
def MkdI (lo hi : Nat) (w : World) (c : Int) (v : Value) (xs : List Int) (r : Int) : Prop := (c ≠ 0 ∧ v = .slice none 0 0 ∧ r = 1) ∨ (c = 0 ∧ r = 1 + (xs.length : Int) ∧ ((xs.length = 0 ∧ ∃ ao cap, v = .slice ao 0 cap) ∨ ∃ g cap, v = .slice (some ⟨g, 0, none⟩) xs.length cap ∧ lo ≤ g ∧ g < hi ∧ Seg w g 2 0 xs.length (fun i : Nat => .int .i64 (1 + i))))
theorem MkdI.keep {lo hi : Nat} {w w' : World} {c : Int} {v : Value} {xs : List Int} {r : Int} (h : MkdI lo hi w c v xs r) (hk : Keep lo hi w w') : MkdI lo hi w' c v xs r := by
  rcases h with h | ⟨h, h0, h2 | ⟨g, cap, rfl, h1, h2, hm⟩⟩
  · exact Or.inl h
  · exact Or.inr ⟨h, h0, Or.inl h2⟩
  · exact Or.inr ⟨h, h0, Or.inr ⟨g, cap, rfl, h1, h2, hm.of_block (hk g h1 h2)⟩⟩
theorem MkdI.pos {lo hi : Nat} {w : World} {c : Int} {v : Value} {xs : List Int} {r : Int} (h : MkdI lo hi w c v xs r) : 0 ≤ r := by
  rcases h with ⟨_, _, rfl⟩ | ⟨_, rfl, _⟩ <;> omega
theorem markL_any {lo hi : Nat} {w : World} {v : Value} {xs : List Int} (h : (xs = [] ∧ ∃ ao cap, v = .slice ao 0 cap) ∨ ∃ g cap, v = .slice (some ⟨g, 0, none⟩) xs.length cap ∧ lo ≤ g ∧ g < hi ∧ Seg w g 2 0 xs.length (fun i => .int .i64 (xs.getD i 0))) (hl : xs.length ≤ 1048576) :
    Calls Try.prog 47 #[v, .int .i64 1] w fun e w' => e = .returned (.int .i64 (1 + (xs.length : Int))) ∧ ((xs.length = 0 ∧ ∃ ao cap, v = .slice ao 0 cap) ∨ ∃ g cap, v = .slice (some ⟨g, 0, none⟩) xs.length cap ∧ lo ≤ g ∧ g < hi ∧ Seg w' g 2 0 xs.length (fun i : Nat => .int .i64 (1 + i))) ∧ Within lo hi w w' := by
  rcases h with ⟨rfl, ao, cap, rfl⟩ | ⟨g, cap, rfl, h1, h2, h3⟩
  · refine (markS_none ao cap 1 w).mono ?_
    rintro e w' ⟨rfl, rfl⟩
    exact ⟨rfl, Or.inl ⟨rfl, ao, cap, rfl⟩, Within.refl _ _ _⟩
  · refine (markS_some g 0 xs.length cap _ 1 w (by omega) (by omega) h3).mono ?_
    rintro e w' ⟨rfl, a1, a2, _⟩
    exact ⟨rfl, Or.inr ⟨g, cap, rfl, h1, h2, a1⟩, a2.mono h1 h2⟩
theorem heldL_any {lo hi len : Nat} {w : World} {v : Value} (h : (len = 0 ∧ ∃ ao cap, v = .slice ao 0 cap) ∨ ∃ g cap, v = .slice (some ⟨g, 0, none⟩) len cap ∧ lo ≤ g ∧ g < hi ∧ Seg w g 2 0 len (fun i : Nat => .int .i64 (1 + i))) (hl : len ≤ 1048576) :
    Calls Try.prog 48 #[v, .int .i64 1] w fun e w' => e = .returned (.int .i64 (1 + (len : Int))) ∧ w = w' := by
  rcases h with ⟨rfl, ao, cap, rfl⟩ | ⟨g, cap, rfl, h1, h2, h3⟩
  · refine (heldS_none ao cap 1 w).mono ?_
    rintro e w' ⟨rfl, rfl⟩
    exact ⟨rfl, rfl⟩
  · exact heldS_some g 0 len cap 1 w (by omega) (by omega) fun i hi => h3.cell hi
set_option maxHeartbeats 400000 in
theorem markI_any {lo hi : Nat} {w : World} {c : Int} {v : Value} {xs : List Int} (h : OwnI lo hi w c v xs) (hn : c = 0 → xs.length ≤ 1048576) (hlo : lo ≤ w.heap.size) (hhi : hi ≤ w.heap.size) :
    Calls Try.prog 22 #[.agg #[.int .i64 c, v], .int .i64 1] w fun e w' => ∃ r, e = .returned (.int .i64 r) ∧ MkdI lo hi w' c v xs r ∧ Within lo hi w w' := by
  rcases h with ⟨h0, rfl⟩ | ⟨rfl, hm⟩
  · have H0 : Hid (c ≠ 0) := h0
    clear h0 hn
    go_enter Try.func22, Try.ntmps22
    go_wp2_with fail
    refine (markS_none _ _ _ _).mono ?_
    rintro e w1 ⟨rfl, rfl⟩
    go_wp2
    go_ret
    exact ⟨1, rfl, Or.inl ⟨H0.out, rfl, rfl⟩, (Within.refl _ _ _).alloc hlo _⟩
  · have HN : Hid (xs.length ≤ 1048576) := hn rfl
    obtain ⟨ao, k, cap, rfl⟩ : ∃ ao k cap, v = .slice ao k cap := by
      rcases hm with ⟨_, _, _, rfl⟩ | ⟨g, cap, rfl, _⟩
      · exact ⟨_, _, _, rfl⟩
      · exact ⟨_, _, _, rfl⟩
    have HM : ∀ o, Hid ((xs = [] ∧ ∃ ao' cap', (.slice ao k cap : Value) = .slice ao' 0 cap') ∨ ∃ g cp, (.slice ao k cap : Value) = .slice (some ⟨g, 0, none⟩) xs.length cp ∧ lo ≤ g ∧ g < hi ∧ Seg (w.alloc o) g 2 0 xs.length (fun i => .int .i64 (xs.getD i 0))) := by
      intro o
      rcases hm with hm | ⟨g, cp, e, h1, h2, hm⟩
      · exact Or.inl hm
      · exact Or.inr ⟨g, cp, e, h1, h2, hm.alloc o⟩
    clear hm hn
    go_enter Try.func22, Try.ntmps22
    go_wp2_with fail
    refine (markL_any (HM _).out HN.out).mono ?_
    rintro e w1 ⟨rfl, hm1, hw1⟩
    have H1 : Hid (MkdI lo hi w1 0 (.slice ao k cap) xs (1 + (xs.length : Int)) ∧ Within lo hi w w1) := ⟨Or.inr ⟨rfl, rfl, hm1⟩, ((Within.refl _ _ _).alloc hlo _).trans hw1⟩
    clear hm1 hw1 HM
    go_wp2
    go_ret
    exact ⟨_, rfl, H1.out.1, H1.out.2⟩
set_option maxHeartbeats 400000 in
theorem heldI_any {lo hi : Nat} {w : World} {c : Int} {v : Value} {xs : List Int} {r : Int} (h : MkdI lo hi w c v xs r) (hn : c = 0 → xs.length ≤ 1048576) (hhi : hi ≤ w.heap.size) :
    Calls Try.prog 23 #[.agg #[.int .i64 c, v], .int .i64 1] w fun e w' => e = .returned (.int .i64 r) ∧ Below w.heap.size w w' := by
  rcases h with ⟨h0, rfl, rfl⟩ | ⟨rfl, hr, hm⟩
  · clear h0 hn
    go_enter Try.func23, Try.ntmps23
    go_wp2_with fail
    refine (heldS_none _ _ _ _).mono ?_
    rintro e w1 ⟨rfl, rfl⟩
    go_wp2
    go_ret
    exact ⟨rfl, (Below.refl _ _).alloc (Nat.le_refl _) _⟩
  · have HN : Hid (xs.length ≤ 1048576) := hn rfl
    obtain ⟨ao, k, cap, rfl⟩ : ∃ ao k cap, v = .slice ao k cap := by
      rcases hm with ⟨_, _, _, rfl⟩ | ⟨g, cap, rfl, _⟩
      · exact ⟨_, _, _, rfl⟩
      · exact ⟨_, _, _, rfl⟩
    have HM : ∀ o, Hid ((xs.length = 0 ∧ ∃ ao' cap', (.slice ao k cap : Value) = .slice ao' 0 cap') ∨ ∃ g cp, (.slice ao k cap : Value) = .slice (some ⟨g, 0, none⟩) xs.length cp ∧ lo ≤ g ∧ g < hi ∧ Seg (w.alloc o) g 2 0 xs.length (fun i : Nat => .int .i64 (1 + i))) := by
      intro o
      rcases hm with hm | ⟨g, cp, e, h1, h2, hm⟩
      · exact Or.inl hm
      · exact Or.inr ⟨g, cp, e, h1, h2, hm.alloc o⟩
    have HR : Hid (r = 1 + (xs.length : Int)) := hr
    have hr0 : 0 ≤ r := by rw [hr]; omega
    clear hm hn hr
    go_enter Try.func23, Try.ntmps23
    go_wp2_with fail
    refine (heldL_any (HM _).out HN.out).mono ?_
    rintro e w1 ⟨rfl, rfl⟩
    rw [← HR.out]
    clear HM
    go_wp2
    go_ret
    exact ⟨rfl, (Below.refl _ _).alloc (Nat.le_refl _) _⟩
end Go.Proofs.Ytfpklfpcencimaa
