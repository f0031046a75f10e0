/- Lists of neighbours, and what tells one with a code: the laws' own comparisons and marks. -/
import Derived.Test.YtfpklfpcencimaaNe
import Derived.Test.YtfpklfpcencimaaNh
namespace Go.Proofs.Ytfpklfpcencimaa
open Go.RowKit
set_option linter.unusedVariables false
set_option linter.unusedSimpArgs false
structure Gu where
  wk : Int
  sp : Int
def gcell (g : Gu) : Nat → Value
  | 0 => .int .i64 g.wk
  | _ => .int .i64 g.sp
def mG (k : Int) (i : Nat) : Int := k + 2 * (i : Int)
def mgd (K : Int) : Gu := ⟨K, K + 1⟩
/-- A list of pairs, cell by cell. -/
def fl (xs : List (Int × Int)) : List Value := xs.flatMap fun x => [.int .i64 x.1, .int .i64 x.2]
theorem fl_snoc (xs : List (Int × Int)) (x : Int × Int) : fl (xs ++ [x]) = fl xs ++ [.int .i64 x.1, .int .i64 x.2] := by unfold fl; rw [List.flatMap_append]; simp
def scl (xs : List (Int × Int)) (i j : Nat) : Value := if j = 0 then .int .i64 (xs.getD i (0, 0)).1 else .int .i64 (xs.getD i (0, 0)).2
theorem fl_at : ∀ (xs : List (Int × Int)) (i j : Nat), i < xs.length → j < 2 → (fl xs)[i * 2 + j]? = some (scl xs i j)
  | [], i, j, h, _ => absurd h (Nat.not_lt_zero _)
  | x :: xs, 0, j, _, hj => by
    show (Value.int .i64 x.1 :: .int .i64 x.2 :: fl xs)[0 * 2 + j]? = _
    match j, hj with
    | 0, _ => rfl
    | 1, _ => rfl
  | x :: xs, i + 1, j, h, hj => by
    show (Value.int .i64 x.1 :: .int .i64 x.2 :: fl xs)[(i + 1) * 2 + j]? = _
    rw [show (i + 1) * 2 + j = (i * 2 + j) + 1 + 1 by omega]
    simp only [List.getElem?_cons_succ]
    rw [fl_at xs i j (by simpa using h) hj]
    unfold scl
    simp
theorem owned_pairs {w : World} {base : Nat} {v : Value} {xs : List (Int × Int)} (h : w.ownsRow base 62 2 v xs.length (fl xs)) : (xs = [] ∧ v = .slice none 0 0) ∨ ∃ g cap, v = .slice (some ⟨g, 0, none⟩) xs.length cap ∧ base ≤ g ∧ SegV w g 62 xs.length 2 (scl xs) := by
  obtain ⟨_, h1 | ⟨g, cap, cur, hv, hg, hh, h1, h2, h3, h4⟩⟩ := h
  · exact Or.inl ⟨List.length_eq_zero_iff.1 h1.2, h1.1⟩
  · refine Or.inr ⟨g, cap, hv, hg, cur, hh, fun i hi j hj => ?_⟩
    have e : (cur.toList.take (xs.length * 2))[i * 2 + j]? = (fl xs)[i * 2 + j]? := by rw [h4]
    rw [List.getElem?_take_of_lt (by omega), fl_at xs i j hi hj] at e
    rw [← Array.getElem?_toList]
    exact e
theorem info62 : (Try.prog.info? 62).map (fun i => (i.zero, i.size, i.bytes)) = some (some (.agg #[.int .i64 0, .int .i64 0]), 2, 16) := by kernel_rfl
set_option maxRecDepth 20000 in
set_option maxHeartbeats 3200000 in
theorem eqSl_same (g : Gu) (w : World) : Calls Try.prog 54 #[.agg #[.int .i64 g.wk, .int .i64 g.sp], .agg #[.int .i64 g.wk, .int .i64 g.sp]] w fun e w' => e = .returned (.bool true) ∧ Below w.heap.size w w' := by
  go_enter Try.func54, Try.ntmps54
  go_wp2
  go_ret
  exact ⟨rfl, by go_grown⟩
set_option maxRecDepth 20000 in
set_option maxHeartbeats 3200000 in
theorem eqSls_same (b cap b' cap' n : Nat) (G : Nat → Gu) (w : World) (hn : n ≤ 1000000000000) (hs : SegV w b 62 n 2 (fun i j => gcell (G i) j)) (ht : SegV w b' 62 n 2 (fun i j => gcell (G i) j)) :
    Calls Try.prog 32 #[.slice (some ⟨b, 0, none⟩) n cap, .slice (some ⟨b', 0, none⟩) n cap'] w fun e w' => e = .returned (.bool true) ∧ Below w.heap.size w w' := by
  have later : ∀ (wr : World) (p : Addr) {v : Value}, w.cell? p = some v → Below w.heap.size w wr → wr.cell? p = some v := fun wr p v h hb => (hb.cell (World.block_lt_of_cell? _ _ h)).trans h
  go_enter Try.func32, Try.ntmps32
  go_wp2_with fail
  go_loopw [5] (fun i wr => ∃ k : Nat, k ≤ n ∧ i = .int .i64 k ∧ Below w.heap.size w wr) (fun i _ => n - (intOf i).toNat)
  case atStart => exact ⟨0, Nat.zero_le _, rfl, Below.refl _ _⟩
  case round =>
    obtain ⟨k, hk, rfl, hb⟩ := hrel
    by_cases hkn : k < n
    · have p0 : ∀ W, Below w.heap.size w W → W.cell? ⟨b, k * 2, none⟩ = some (.int .i64 (G k).wk) := fun W h => later W _ (hs.cell hkn (show 0 < 2 by omega)) h
      have q0 : ∀ W, Below w.heap.size w W → W.cell? ⟨b', k * 2, none⟩ = some (.int .i64 (G k).wk) := fun W h => later W _ (ht.cell hkn (show 0 < 2 by omega)) h
      have p1 : ∀ W, Below w.heap.size w W → W.cell? ⟨b, k * 2 + 1, none⟩ = some (.int .i64 (G k).sp) := fun W h => later W _ (hs.cell hkn (show 1 < 2 by omega)) h
      have q1 : ∀ W, Below w.heap.size w W → W.cell? ⟨b', k * 2 + 1, none⟩ = some (.int .i64 (G k).sp) := fun W h => later W _ (ht.cell hkn (show 1 < 2 by omega)) h
      clear hs ht later
      go_wp2_with fail
      go_region_held (fun W => Below w.heap.size w W) (first | assumption | exact Below.drew ‹_›)
        (first | (go_at_call 54; refine (eqSl_same (G k) _).mono ?_; rintro e w1 ⟨rfl, hb1⟩; have hR1 := box_step ‹_› hb1 (Nat.le_refl _)))
      have HB : Hid (Below w.heap.size w w1) := hR1
      clear hR1 hb1 p0 q0 p1 q1
      go_wp2
      go_roundw
      case rel => exact ⟨k + 1, by omega, by simp, HB.out⟩
      case measure => simp [intOf]; omega
    · obtain rfl : k = n := by omega
      clear hs ht later
      go_wp2
      go_ret
      exact ⟨rfl, hb⟩
set_option maxRecDepth 20000 in
set_option maxHeartbeats 3200000 in
theorem markSl_some (g n cap : Nat) (k0 : Int) (f : Nat → Nat → Value) (w : World) (hn : n ≤ 1048576) (hk0 : 0 ≤ k0) (hk1 : k0 ≤ 100000000) (hs : SegV w g 62 n 2 f) :
    Calls Try.prog 35 #[.slice (some ⟨g, 0, none⟩) n cap, .int .i64 k0] w fun e w' => e = .returned (.int .i64 (mG k0 n)) ∧ SegV w' g 62 n 2 (fun i j => gcell (mgd (mG k0 i)) j) ∧ Within g (g + 1) w w' ∧ w'.heap.size = w.heap.size := by
  have HS : Hid (SegV w g 62 n 2 f) := hs
  clear hs
  have hnI : (n : Int) ≤ 1048576 := by omega
  go_enter Try.func35, Try.ntmps35
  go_wp2_with fail
  go_loopw [1, 5] (fun s1 s5 wr => ∃ i : Nat, i ≤ n ∧ s1 = .int .i64 (mG k0 i) ∧ s5 = .int .i64 i ∧ Hid (SegV wr g 62 n 2 (fun a j => if a < i then gcell (mgd (mG k0 a)) j else f a j) ∧ Within g (g + 1) w wr ∧ wr.heap.size = w.heap.size)) (fun _ s5 _ => n - (intOf s5).toNat)
  case atStart => exact ⟨0, Nat.zero_le _, by simp [mG], rfl, HS.out.congr (fun a _ j _ => by simp), Within.refl _ _ _, rfl⟩
  case round =>
    obtain ⟨i, hi, rfl, rfl, HH⟩ := hrel
    by_cases hin : i < n
    · have fz : ∀ j, wr.frozen? ⟨g, j, none⟩ = false := fun j => HH.out.1.frozen j
      have a0 := HH.out.1.cell hin (show 0 < 2 by omega)
      have a1 := HH.out.1.cell hin (show 1 < 2 by omega)
      simp only [Nat.add_zero, Nat.lt_irrefl, if_false] at a0 a1
      have hiI : (i : Int) < n := by omega
      have hKn : mG k0 (i + 1) = mG k0 i + 1 + 1 := by unfold mG; omega
      have hK0 : 0 ≤ mG k0 i := by unfold mG; omega
      have hK1 : mG k0 i ≤ 500000000 := by unfold mG; omega
      obtain ⟨K, hK⟩ : ∃ K : Int, K = mG k0 i := ⟨_, rfl⟩
      have HK : Hid (mG k0 (i + 1) = K + 1 + 1) := by rw [hK]; exact hKn
      rw [← hK] at hK0 hK1 ⊢
      clear hKn
      have HW : Hid (SegV ((wr.setCell ⟨g, i * 2, none⟩ (.int .i64 (K))).setCell ⟨g, i * 2 + 1, none⟩ (.int .i64 (K + 1))) g 62 n 2 (fun a j => if a < i + 1 then gcell (mgd (mG k0 a)) j else f a j) ∧ Within g (g + 1) w ((wr.setCell ⟨g, i * 2, none⟩ (.int .i64 (K))).setCell ⟨g, i * 2 + 1, none⟩ (.int .i64 (K + 1))) ∧ ((wr.setCell ⟨g, i * 2, none⟩ (.int .i64 (K))).setCell ⟨g, i * 2 + 1, none⟩ (.int .i64 (K + 1))).heap.size = w.heap.size) := by
        obtain ⟨h1, h2, h4⟩ := HH.out
        have t0 := SegV.set h1 hin (show 0 < 2 by omega) (.int .i64 (K))
        have t1 := SegV.set t0 hin (show 1 < 2 by omega) (.int .i64 (K + 1))
        refine ⟨t1.congr fun a ha j hj => ?_, ((h2.setCell (Nat.le_refl _) (Nat.lt_succ_self _) _).setCell (Nat.le_refl _) (Nat.lt_succ_self _) _), by simpa using h4⟩
        by_cases c : a = i
        · subst c
          have e3 : a < a + 1 := by omega
          rw [← hK]
          match j, hj with
          | 0, _ => simp [e3, gcell, mgd]
          | 1, _ => simp [e3, gcell, mgd]
        · by_cases c2 : a < i
          · simp [c, c2, Nat.lt_succ_of_lt c2]
          · have : ¬ a < i + 1 := by omega
            simp [c, c2, this]
      clear hK HH
      go_wp2
      go_roundw
      case rel =>
        refine ⟨i + 1, by omega, by rw [HK.out], by simp, ?_⟩
        first | exact HW | (simp only [Nat.add_assoc, Nat.reduceAdd]; exact HW)
      case measure => simp [intOf]; omega
    · obtain rfl : i = n := by omega
      go_wp2
      go_ret
      exact ⟨rfl, HH.out.1.congr fun a ha j _ => by simp [ha], HH.out.2⟩
/-- A list of pairs as pairs. -/
def pr (xs : List (Int × Int)) (i : Nat) : Gu := ⟨(xs.getD i (0, 0)).1, (xs.getD i (0, 0)).2⟩
theorem scl_is (xs : List (Int × Int)) (i j : Nat) (hj : j < 2) : scl xs i j = gcell (pr xs i) j := by
  match j, hj with
  | 0, _ => rfl
  | 1, _ => rfl
set_option maxHeartbeats 800000 in
theorem eqSl_none (ao ao' : Option Addr) (cap cap' : Nat) (w : World) : Calls Try.prog 32 #[.slice ao 0 cap, .slice ao' 0 cap'] w fun e w' => e = .returned (.bool true) ∧ Below w.heap.size w w' := by
  go_enter Try.func32, Try.ntmps32
  go_wp2_with fail
  go_loopw [5] (fun i wr => i = .int .i64 0 ∧ wr = w) (fun _ _ => 0)
  case atStart => exact ⟨rfl, rfl⟩
  case round =>
    obtain ⟨rfl, hwr⟩ := hrel
    obtain rfl := hwr.symm
    go_wp2
    go_ret
    exact ⟨rfl, Below.refl _ _⟩
set_option maxHeartbeats 800000 in
theorem markSl_none (ao : Option Addr) (cap : Nat) (k0 : Int) (w : World) : Calls Try.prog 35 #[.slice ao 0 cap, .int .i64 k0] w fun e w' => e = .returned (.int .i64 k0) ∧ w = w' := by
  go_enter Try.func35, Try.ntmps35
  go_wp2_with fail
  go_loopw [1, 5] (fun s i wr => s = .int .i64 k0 ∧ i = .int .i64 0 ∧ wr = w) (fun _ _ _ => 0)
  case atStart => exact ⟨rfl, rfl, rfl⟩
  case round =>
    obtain ⟨rfl, rfl, hwr⟩ := hrel
    obtain rfl := hwr.symm
    go_wp2
    go_ret
    exact ⟨rfl, rfl⟩
set_option maxHeartbeats 800000 in
theorem heldSl_none (ao : Option Addr) (cap : Nat) (k0 : Int) (w : World) : Calls Try.prog 36 #[.slice ao 0 cap, .int .i64 k0] w fun e w' => e = .returned (.int .i64 k0) ∧ w = w' := by
  go_enter Try.func36, Try.ntmps36
  go_wp2_with fail
  go_loopw [1, 5] (fun s i wr => s = .int .i64 k0 ∧ i = .int .i64 0 ∧ wr = w) (fun _ _ _ => 0)
  case atStart => exact ⟨rfl, rfl, rfl⟩
  case round =>
    obtain ⟨rfl, rfl, hwr⟩ := hrel
    obtain rfl := hwr.symm
    go_wp2
    go_ret
    exact ⟨rfl, rfl⟩
set_option maxHeartbeats 800000 in
theorem heldSl_some (g n cap : Nat) (k0 : Int) (w : World) (hn : n ≤ 1048576) (hk0 : 0 ≤ k0) (hk1 : k0 ≤ 100000000) (hs : SegV w g 62 n 2 (fun i j => gcell (mgd (mG k0 i)) j)) :
    Calls Try.prog 36 #[.slice (some ⟨g, 0, none⟩) n cap, .int .i64 k0] w fun e w' => e = .returned (.int .i64 (mG k0 n)) ∧ w = w' := by
  have HS : Hid (SegV w g 62 n 2 (fun i j => gcell (mgd (mG k0 i)) j)) := hs
  clear hs
  have hnI : (n : Int) ≤ 1048576 := by omega
  go_enter Try.func36, Try.ntmps36
  go_wp2_with fail
  go_loopw [1, 5] (fun s1 s5 wr => wr = w ∧ ∃ i : Nat, i ≤ n ∧ s1 = .int .i64 (mG k0 i) ∧ s5 = .int .i64 i) (fun _ s5 _ => n - (intOf s5).toNat)
  case atStart => exact ⟨rfl, 0, Nat.zero_le _, by simp [mG], rfl⟩
  case round =>
    obtain ⟨hwr, i, hi, rfl, rfl⟩ := hrel
    obtain rfl := hwr.symm
    by_cases hin : i < n
    · have a0 := HS.out.cell hin (show 0 < 2 by omega)
      have a1 := HS.out.cell hin (show 1 < 2 by omega)
      simp only [Nat.add_zero, gcell, mgd] at a0 a1
      have hiI : (i : Int) < n := by omega
      have hKn : mG k0 (i + 1) = mG k0 i + 1 + 1 := by unfold mG; omega
      have hK0 : 0 ≤ mG k0 i := by unfold mG; omega
      have hK1 : mG k0 i ≤ 500000000 := by unfold mG; omega
      obtain ⟨K, hK⟩ : ∃ K : Int, K = mG k0 i := ⟨_, rfl⟩
      have HK : Hid (mG k0 (i + 1) = K + 1 + 1) := by rw [hK]; exact hKn
      rw [← hK] at hK0 hK1 a0 a1 ⊢
      clear hKn hK
      go_wp2
      go_roundw
      case rel => exact ⟨by trivial, i + 1, by omega, by rw [HK.out], by simp⟩
      case measure => simp [intOf]; omega
    · obtain rfl : i = n := by omega
      go_wp2
      go_ret
      exact ⟨rfl, rfl⟩
/-- A list of pairs, to be read. -/
def RdS (w : World) (v : Value) (xs : List (Int × Int)) : Prop := (xs = [] ∧ v = .slice none 0 0) ∨ ∃ g cap, v = .slice (some ⟨g, 0, none⟩) xs.length cap ∧ SegV w g 62 xs.length 2 (scl xs)
theorem RdS.later {w w' : World} {v : Value} {xs : List (Int × Int)} (h : RdS w v xs) (hb : Below w.heap.size w w') : RdS w' v xs := by
  rcases h with h | ⟨g, cap, e, h⟩
  · exact Or.inl h
  · exact Or.inr ⟨g, cap, e, h.below hb⟩
theorem RdS.shape {w : World} {v : Value} {xs : List (Int × Int)} (h : RdS w v xs) : ∃ ao k cap, v = .slice ao k cap := by
  rcases h with ⟨_, e⟩ | ⟨g, cap, e, h⟩
  · exact ⟨_, _, _, e⟩
  · exact ⟨_, _, _, e⟩
theorem eqSl_any {w : World} {v v' : Value} {xs : List (Int × Int)} (h : RdS w v xs) (h' : RdS w v' xs) (hl : xs.length ≤ 1048576) : Calls Try.prog 32 #[v, v'] w fun e w' => e = .returned (.bool true) ∧ Below w.heap.size w w' := by
  rcases h with ⟨rfl, rfl⟩ | ⟨g, cap, rfl, h⟩
  · rcases h' with ⟨_, rfl⟩ | ⟨g', cap', rfl, h'⟩
    · exact eqSl_none _ _ _ _ w
    · exact eqSl_none _ _ _ _ w
  · rcases h' with ⟨e, rfl⟩ | ⟨g', cap', rfl, h'⟩
    · subst e; exact eqSl_none _ _ _ _ w
    · exact eqSls_same g cap g' cap' xs.length (pr xs) w (by omega) (h.congr fun i _ j hj => scl_is xs i j hj) (h'.congr fun i _ j hj => scl_is xs i j hj)
/-- A list of pairs is marked. -/
theorem markSl_any {mid hi : Nat} {w : World} {sv : Value} {xs : List (Int × Int)} (h : (xs = [] ∧ sv = .slice none 0 0) ∨ ∃ g cap, sv = .slice (some ⟨g, 0, none⟩) xs.length cap ∧ mid ≤ g ∧ g < hi ∧ SegV w g 62 xs.length 2 (scl xs)) (hl : xs.length ≤ 1048576) :
    Calls Try.prog 35 #[sv, .int .i64 1] w fun e w' => e = .returned (.int .i64 (mG 1 xs.length)) ∧ ((xs.length = 0 ∧ sv = .slice none 0 0) ∨ ∃ g cap, sv = .slice (some ⟨g, 0, none⟩) xs.length cap ∧ mid ≤ g ∧ g < hi ∧ SegV w' g 62 xs.length 2 (fun i j => gcell (mgd (mG 1 i)) j)) ∧ Within mid hi w w' := by
  rcases h with ⟨rfl, rfl⟩ | ⟨g, cap, rfl, h1, h2, h3⟩
  · refine (markSl_none none 0 1 w).mono ?_
    rintro e w' ⟨rfl, rfl⟩
    exact ⟨by simp [mG], Or.inl ⟨rfl, rfl⟩, Within.refl _ _ _⟩
  · refine (markSl_some g xs.length cap 1 _ w hl (by omega) (by omega) h3).mono ?_
    rintro e w' ⟨rfl, a1, a2, _⟩
    exact ⟨rfl, Or.inr ⟨g, cap, rfl, h1, h2, a1⟩, a2.mono h1 h2⟩
theorem heldSl_any {mid hi len : Nat} {w : World} {sv : Value} (h : (len = 0 ∧ sv = .slice none 0 0) ∨ ∃ g cap, sv = .slice (some ⟨g, 0, none⟩) len cap ∧ mid ≤ g ∧ g < hi ∧ SegV w g 62 len 2 (fun i j => gcell (mgd (mG 1 i)) j)) (hl : len ≤ 1048576) :
    Calls Try.prog 36 #[sv, .int .i64 1] w fun e w' => e = .returned (.int .i64 (mG 1 len)) ∧ w = w' := by
  rcases h with ⟨rfl, rfl⟩ | ⟨g, cap, rfl, h1, h2, h3⟩
  · refine (heldSl_none none 0 1 w).mono ?_
    rintro e w' ⟨rfl, rfl⟩
    exact ⟨by simp [mG], rfl⟩
  · exact heldSl_some g len cap 1 w hl (by omega) (by omega) h3
/-- A result with a code, to be read: a fault and nothing else, or 0 and neighbours. -/
def OutN (w : World) (c : Int) (v : Value) (xs : List (Int × Int)) : Prop := (c ≠ 0 ∧ v = .slice none 0 0) ∨ (c = 0 ∧ RdS w v xs)
theorem OutN.later {w w' : World} {c : Int} {v : Value} {xs : List (Int × Int)} (h : OutN w c v xs) (hb : Below w.heap.size w w') : OutN w' c v xs := by
  rcases h with h | ⟨h, h1⟩
  · exact Or.inl h
  · exact Or.inr ⟨h, h1.later hb⟩
theorem OutN.shape {w : World} {c : Int} {v : Value} {xs : List (Int × Int)} (h : OutN w c v xs) : ∃ ao k cap, v = .slice ao k cap := by
  rcases h with ⟨_, rfl⟩ | ⟨h, h1⟩
  · exact ⟨_, _, _, rfl⟩
  · exact h1.shape
/-- A result with a code that owns its memory, from lo on, below hi. -/
def OwnN (lo hi : Nat) (w : World) (c : Int) (v : Value) (xs : List (Int × Int)) : Prop := (c ≠ 0 ∧ v = .slice none 0 0) ∨ (c = 0 ∧ ((xs = [] ∧ v = .slice none 0 0) ∨ ∃ g cap, v = .slice (some ⟨g, 0, none⟩) xs.length cap ∧ lo ≤ g ∧ g < hi ∧ SegV w g 62 xs.length 2 (scl xs)))
theorem OwnN.keep {lo hi : Nat} {w w' : World} {c : Int} {v : Value} {xs : List (Int × Int)} (h : OwnN lo hi w c v xs) (hk : Keep lo hi w w') : OwnN lo hi w' c v xs := by
  rcases h with h | ⟨h, h2 | ⟨g, cap, rfl, h1, h2, hm⟩⟩
  · exact Or.inl h
  · exact Or.inr ⟨h, Or.inl h2⟩
  · exact Or.inr ⟨h, Or.inr ⟨g, cap, rfl, h1, h2, hm.of_block (hk g h1 h2)⟩⟩
theorem OwnN.rd {lo hi : Nat} {w : World} {c : Int} {v : Value} {xs : List (Int × Int)} (h : OwnN lo hi w c v xs) : OutN w c v xs := by
  rcases h with h | ⟨h, h2 | ⟨g, cap, rfl, h1, h2, hm⟩⟩
  · exact Or.inl h
  · exact Or.inr ⟨h, Or.inl h2⟩
  · exact Or.inr ⟨h, Or.inr ⟨g, cap, rfl, hm⟩⟩
set_option maxHeartbeats 400000 in
theorem eqN_go {w : World} {c : Int} {v v' : Value} {xs : List (Int × Int)} (h1 : RdS w v xs) (h3 : RdS w v' xs) (hn : xs.length ≤ 1048576) :
    Calls Try.prog 9 #[.agg #[.int .i64 c, v], .agg #[.int .i64 c, v']] w fun e w' => e = .returned (.bool true) ∧ Below w.heap.size w w' := by
  obtain ⟨ao, k, cap, rfl⟩ := h1.shape
  obtain ⟨ao', k', cap', rfl⟩ := h3.shape
  have a1 : ∀ W, Below w.heap.size w W → Hid (RdS W (.slice ao k cap) xs ∧ RdS W (.slice ao' k' cap') xs) := fun W hb => ⟨h1.later hb, h3.later hb⟩
  have HN : Hid (xs.length ≤ 1048576) := hn
  clear h1 h3 hn
  go_enter Try.func9, Try.ntmps9
  go_wp2_with fail
  refine (eqSl_any (a1 _ (((Below.refl _ _).alloc (Nat.le_refl _) _).alloc (by simp) _)).out.1 (a1 _ (((Below.refl _ _).alloc (Nat.le_refl _) _).alloc (by simp) _)).out.2 HN.out).mono ?_
  rintro e w1 ⟨rfl, hb1⟩
  have HB : Hid (Below w.heap.size w w1) := by refine box_step ?_ hb1 (by simp); go_grown
  clear a1 hb1
  go_wp2
  go_ret
  exact ⟨rfl, HB.out⟩
theorem eqN_any {w : World} {c : Int} {v v' : Value} {xs : List (Int × Int)} (h : OutN w c v xs) (h' : OutN w c v' xs) (hn : c = 0 → xs.length ≤ 1048576) :
    Calls Try.prog 9 #[.agg #[.int .i64 c, v], .agg #[.int .i64 c, v']] w fun e w' => e = .returned (.bool true) ∧ Below w.heap.size w w' := by
  rcases h with ⟨h0, rfl⟩ | ⟨h0, h1⟩
  · rcases h' with ⟨_, rfl⟩ | ⟨h2, _⟩
    · exact eqN_go (xs := []) (Or.inl ⟨rfl, rfl⟩) (Or.inl ⟨rfl, rfl⟩) (by simp)
    · exact absurd h2 h0
  · rcases h' with ⟨h2, rfl⟩ | ⟨_, h3⟩
    · exact absurd h0 h2
    · exact eqN_go h1 h3 (hn h0)
/-- A result that has been marked from 1 on, the next mark being r. -/
def MkdN (lo hi : Nat) (w : World) (c : Int) (v : Value) (xs : List (Int × Int)) (r : Int) : Prop := (c ≠ 0 ∧ v = .slice none 0 0 ∧ r = 1) ∨ (c = 0 ∧ r = mG 1 xs.length ∧ ((xs.length = 0 ∧ v = .slice none 0 0) ∨ ∃ g cap, v = .slice (some ⟨g, 0, none⟩) xs.length cap ∧ lo ≤ g ∧ g < hi ∧ SegV w g 62 xs.length 2 (fun i j => gcell (mgd (mG 1 i)) j)))
theorem MkdN.keep {lo hi : Nat} {w w' : World} {c : Int} {v : Value} {xs : List (Int × Int)} {r : Int} (h : MkdN lo hi w c v xs r) (hk : Keep lo hi w w') : MkdN lo hi w' c v xs r := by
  rcases h with h | ⟨h, h0, h2 | ⟨g, cap, rfl, h1, h2, hm⟩⟩
  · exact Or.inl h
  · exact Or.inr ⟨h, h0, Or.inl h2⟩
  · exact Or.inr ⟨h, h0, Or.inr ⟨g, cap, rfl, h1, h2, hm.of_block (hk g h1 h2)⟩⟩
theorem MkdN.pos {lo hi : Nat} {w : World} {c : Int} {v : Value} {xs : List (Int × Int)} {r : Int} (h : MkdN lo hi w c v xs r) : 0 ≤ r := by
  rcases h with ⟨_, _, rfl⟩ | ⟨_, rfl, _⟩
  · omega
  · unfold mG; omega
set_option maxHeartbeats 400000 in
theorem markN_any {lo hi : Nat} {w : World} {c : Int} {v : Value} {xs : List (Int × Int)} (h : OwnN lo hi w c v xs) (hn : c = 0 → xs.length ≤ 1048576) (hlo : lo ≤ w.heap.size) (hhi : hi ≤ w.heap.size) :
    Calls Try.prog 12 #[.agg #[.int .i64 c, v], .int .i64 1] w fun e w' => ∃ r, e = .returned (.int .i64 r) ∧ MkdN lo hi w' c v xs r ∧ Within lo hi w w' := by
  rcases h with ⟨h0, rfl⟩ | ⟨rfl, hm⟩
  · have H0 : Hid (c ≠ 0) := h0
    clear h0 hn
    go_enter Try.func12, Try.ntmps12
    go_wp2_with fail
    refine (markSl_none _ _ _ _).mono ?_
    rintro e w1 ⟨rfl, rfl⟩
    go_wp2
    go_ret
    exact ⟨1, rfl, Or.inl ⟨H0.out, rfl, rfl⟩, (Within.refl _ _ _).alloc hlo _⟩
  · have HN : Hid (xs.length ≤ 1048576) := hn rfl
    obtain ⟨ao, k, cap, rfl⟩ : ∃ ao k cap, v = .slice ao k cap := by
      rcases hm with ⟨_, rfl⟩ | ⟨g, cap, rfl, _⟩
      · exact ⟨_, _, _, rfl⟩
      · exact ⟨_, _, _, rfl⟩
    have HM : ∀ o, Hid ((xs = [] ∧ (.slice ao k cap : Value) = .slice none 0 0) ∨ ∃ g cp, (.slice ao k cap : Value) = .slice (some ⟨g, 0, none⟩) xs.length cp ∧ lo ≤ g ∧ g < hi ∧ SegV (w.alloc o) g 62 xs.length 2 (scl xs)) := by
      intro o
      rcases hm with hm | ⟨g, cp, e, h1, h2, hm⟩
      · exact Or.inl hm
      · exact Or.inr ⟨g, cp, e, h1, h2, hm.below ((Below.refl _ _).alloc (Nat.le_refl _) o)⟩
    clear hm hn
    go_enter Try.func12, Try.ntmps12
    go_wp2_with fail
    refine (markSl_any (HM _).out HN.out).mono ?_
    rintro e w1 ⟨rfl, hm1, hw1⟩
    have H1 : Hid (MkdN lo hi w1 0 (.slice ao k cap) xs (mG 1 xs.length) ∧ Within lo hi w w1) := ⟨Or.inr ⟨rfl, rfl, hm1⟩, ((Within.refl _ _ _).alloc hlo _).trans hw1⟩
    clear hm1 hw1 HM
    go_wp2
    go_ret
    exact ⟨_, rfl, H1.out.1, H1.out.2⟩
set_option maxHeartbeats 400000 in
theorem heldN_any {lo hi : Nat} {w : World} {c : Int} {v : Value} {xs : List (Int × Int)} {r : Int} (h : MkdN lo hi w c v xs r) (hn : c = 0 → xs.length ≤ 1048576) (hhi : hi ≤ w.heap.size) :
    Calls Try.prog 13 #[.agg #[.int .i64 c, v], .int .i64 1] w fun e w' => e = .returned (.int .i64 r) ∧ Below w.heap.size w w' := by
  rcases h with ⟨h0, rfl, rfl⟩ | ⟨rfl, hr, hm⟩
  · clear h0 hn
    go_enter Try.func13, Try.ntmps13
    go_wp2_with fail
    refine (heldSl_none _ _ _ _).mono ?_
    rintro e w1 ⟨rfl, rfl⟩
    go_wp2
    go_ret
    exact ⟨rfl, (Below.refl _ _).alloc (Nat.le_refl _) _⟩
  · have HN : Hid (xs.length ≤ 1048576) := hn rfl
    obtain ⟨ao, k, cap, rfl⟩ : ∃ ao k cap, v = .slice ao k cap := by
      rcases hm with ⟨_, rfl⟩ | ⟨g, cap, rfl, _⟩
      · exact ⟨_, _, _, rfl⟩
      · exact ⟨_, _, _, rfl⟩
    have HM : ∀ o, Hid ((xs.length = 0 ∧ (.slice ao k cap : Value) = .slice none 0 0) ∨ ∃ g cp, (.slice ao k cap : Value) = .slice (some ⟨g, 0, none⟩) xs.length cp ∧ lo ≤ g ∧ g < hi ∧ SegV (w.alloc o) g 62 xs.length 2 (fun i j => gcell (mgd (mG 1 i)) j)) := by
      intro o
      rcases hm with hm | ⟨g, cp, e, h1, h2, hm⟩
      · exact Or.inl hm
      · exact Or.inr ⟨g, cp, e, h1, h2, hm.below ((Below.refl _ _).alloc (Nat.le_refl _) o)⟩
    have HR : Hid (r = mG 1 xs.length) := hr
    have hr0 : 0 ≤ r := by rw [hr]; unfold mG; omega
    clear hm hn hr
    go_enter Try.func13, Try.ntmps13
    go_wp2_with fail
    refine (heldSl_any (HM _).out HN.out).mono ?_
    rintro e w1 ⟨rfl, rfl⟩
    rw [← HR.out]
    clear HM
    go_wp2
    go_ret
    exact ⟨rfl, (Below.refl _ _).alloc (Nat.le_refl _) _⟩
end Go.Proofs.Ytfpklfpcencimaa
