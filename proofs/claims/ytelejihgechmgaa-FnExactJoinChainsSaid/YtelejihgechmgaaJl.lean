/- Lists of spans one behind the other: what append has built, compared, marked, held. -/
import Derived.Test.YtelejihgechmgaaSo
import Derived.Test.YtelejihgechmgaaAp
import Derived.Maps.AppendAt
namespace Go.Proofs.Ytelejihgechmgaa
open Go.RowKit
set_option linter.unusedVariables false
set_option linter.unusedSimpArgs false
def spl (s : Mt.Sp) : List Value := [.int .i64 s.km, .int .i64 s.loss, .int .i64 s.gain, .int .i64 s.tilt]
theorem spl_at (s : Mt.Sp) (j : Nat) (hj : j < 4) : (spl s)[j]? = some (scell s j) := by
  match j, hj with
  | 0, _ => rfl
  | 1, _ => rfl
  | 2, _ => rfl
  | 3, _ => rfl
/-- The one list and the other. -/
def jn (n : Nat) (S T : Nat → Mt.Sp) : Nat → Mt.Sp := fun i => if i < n then S i else T (i - n)
theorem flat_congr {F G : Nat → List Value} : ∀ {n : Nat}, (∀ i, i < n → F i = G i) → flat F n = flat G n
  | 0, _ => rfl
  | n + 1, h => by rw [flat_succ, flat_succ, flat_congr (fun i hi => h i (by omega)), h n (by omega)]
theorem flat_add {F G : Nat → List Value} (n : Nat) : ∀ m, flat (fun i => if i < n then F i else G (i - n)) (n + m) = flat F n ++ flat G m
  | 0 => by
    rw [Nat.add_zero, flat_zero, List.append_nil]
    exact flat_congr fun i hi => by simp [hi]
  | m + 1 => by
    rw [← Nat.add_assoc, flat_succ, flat_add n m, flat_succ, List.append_assoc]
    congr 2
    have : ¬ n + m < n := by omega
    simp [this]
theorem flat_jn (n m : Nat) (S T : Nat → Mt.Sp) : flat (fun i => spl (jn n S T i)) (n + m) = flat (fun i => spl (S i)) n ++ flat (fun i => spl (T i)) m := by
  rw [← flat_add]
  apply flat_congr
  intro i _
  unfold jn
  by_cases h : i < n
  · simp [h]
  · simp [h]
/-- A list of spans of its own, from lo on, below hi. -/
def OwJ (lo hi : Nat) (w : World) (v : Value) (N : Nat) (S : Nat → Mt.Sp) : Prop := (N = 0 ∧ ∃ ao cap, v = .slice ao 0 cap) ∨ ∃ g cap, v = .slice (some ⟨g, 0, none⟩) N cap ∧ lo ≤ g ∧ g < hi ∧ SegV w g 75 N 4 (fun i j => scell (S i) j)
theorem OwJ.keep {lo hi : Nat} {w w' : World} {v : Value} {N : Nat} {S : Nat → Mt.Sp} (h : OwJ lo hi w v N S) (hk : Keep lo hi w w') : OwJ lo hi w' v N S := by
  rcases h with h | ⟨g, cap, e, h1, h2, h3⟩
  · exact Or.inl h
  · exact Or.inr ⟨g, cap, e, h1, h2, h3.of_block (hk g h1 h2)⟩
theorem OwJ.later {lo hi : Nat} {w w' : World} {v : Value} {N : Nat} {S : Nat → Mt.Sp} (h : OwJ lo hi w v N S) (hb : Below w.heap.size w w') : OwJ lo hi w' v N S := by
  rcases h with h | ⟨g, cap, e, h1, h2, h3⟩
  · exact Or.inl h
  · exact Or.inr ⟨g, cap, e, h1, h2, h3.below hb⟩
theorem OwJ.shape {lo hi : Nat} {w : World} {v : Value} {N : Nat} {S : Nat → Mt.Sp} (h : OwJ lo hi w v N S) : ∃ ao cap, v = .slice ao N cap := by
  rcases h with ⟨rfl, ao, cap, e⟩ | ⟨g, cap, e, _⟩
  · exact ⟨_, _, e⟩
  · exact ⟨_, _, e⟩
/-- What append has built. -/
theorem OwJ.of {lo hi N : Nat} {w : World} {v : Value} {S : Nat → Mt.Sp} (h : w.ownsRow lo 75 4 v N (flat (fun i => spl (S i)) N)) (hh : w.heap.size ≤ hi) : OwJ lo hi w v N S := by
  by_cases hv : v = .slice none 0 0
  · obtain ⟨_, h1 | ⟨g, cap, cur, e, _⟩⟩ := h
    · exact Or.inl ⟨h1.2, _, _, h1.1⟩
    · rw [hv] at e; simp at e
  · obtain ⟨g, cap, e, hg, hs⟩ := owned_segV (m := 4) (fun _ => rfl) (f := fun i j => scell (S i) j) (fun i _ j hj => spl_at _ _ hj) h hv
    exact Or.inr ⟨g, cap, e, hg, Nat.lt_of_lt_of_le hs.lt hh, hs⟩
set_option maxHeartbeats 800000 in
theorem eqSp_none (ao ao' : Option Addr) (cap cap' : Nat) (w : World) : Calls Try.prog 18 #[.slice ao 0 cap, .slice ao' 0 cap'] w fun e w' => e = .returned (.bool true) ∧ Below w.heap.size w w' := by
  go_enter Try.func18, Try.ntmps18
  go_wp2_with fail
  go_loopw [5] (fun i wr => i = .int .i64 0 ∧ wr = w) (fun _ _ => 0)
  case atStart => exact ⟨rfl, rfl⟩
  case round =>
    obtain ⟨rfl, hwr⟩ := hrel
    obtain rfl := hwr.symm
    go_wp2
    go_ret
    exact ⟨rfl, Below.refl _ _⟩
theorem eqJ_any {lo hi lo' hi' N : Nat} {w : World} {v v' : Value} {S : Nat → Mt.Sp} (h : OwJ lo hi w v N S) (h' : OwJ lo' hi' w v' N S) (hn : N ≤ 2097152) : Calls Try.prog 18 #[v, v'] w fun e w' => e = .returned (.bool true) ∧ Below w.heap.size w w' := by
  by_cases hz : N = 0
  · subst hz
    obtain ⟨ao, cap, rfl⟩ := h.shape
    obtain ⟨ao', cap', rfl⟩ := h'.shape
    exact eqSp_none _ _ _ _ w
  · rcases h with ⟨e, _⟩ | ⟨g, cap, rfl, _, _, h⟩
    · exact absurd e hz
    rcases h' with ⟨e, _⟩ | ⟨g', cap', rfl, _, _, h'⟩
    · exact absurd e hz
    exact eqSps_same g cap g' cap' N S w (by omega) h h'
/-- Marked from 1 on, the next mark being r. -/
def MkJ (lo hi : Nat) (w : World) (v : Value) (N : Nat) (r : Int) : Prop := r = mSp 1 N ∧ OwJ lo hi w v N (fun i => msp (mSp 1 i))
theorem MkJ.keep {lo hi : Nat} {w w' : World} {v : Value} {N : Nat} {r : Int} (h : MkJ lo hi w v N r) (hk : Keep lo hi w w') : MkJ lo hi w' v N r := ⟨h.1, h.2.keep hk⟩
theorem MkJ.pos {lo hi : Nat} {w : World} {v : Value} {N : Nat} {r : Int} (h : MkJ lo hi w v N r) : 0 ≤ r := by
  rw [h.1]; unfold mSp; omega
set_option maxHeartbeats 800000 in
theorem markSp_none (ao : Option Addr) (cap : Nat) (k0 : Int) (w : World) : Calls Try.prog 19 #[.slice ao 0 cap, .int .i64 k0] w fun e w' => e = .returned (.int .i64 k0) ∧ w = w' := by
  go_enter Try.func19, Try.ntmps19
  go_wp2_with fail
  go_loopw [1, 5] (fun s i wr => s = .int .i64 k0 ∧ i = .int .i64 0 ∧ wr = w) (fun _ _ _ => 0)
  case atStart => exact ⟨rfl, rfl, rfl⟩
  case round =>
    obtain ⟨rfl, rfl, hwr⟩ := hrel
    obtain rfl := hwr.symm
    go_wp2
    go_ret
    exact ⟨rfl, rfl⟩
theorem markJ_any {lo hi N : Nat} {w : World} {v : Value} {S : Nat → Mt.Sp} (h : OwJ lo hi w v N S) (hn : N ≤ 1048576) (hlo : lo ≤ w.heap.size) (hhi : hi ≤ w.heap.size) : Calls Try.prog 19 #[v, .int .i64 1] w fun e w' => ∃ r, e = .returned (.int .i64 r) ∧ MkJ lo hi w' v N r ∧ Within lo hi w w' := by
  rcases h with ⟨rfl, ao, cap, rfl⟩ | ⟨g, cap, rfl, h1, h2, h3⟩
  · refine (markSp_none ao cap 1 w).mono ?_
    rintro e w' ⟨rfl, rfl⟩
    exact ⟨1, rfl, ⟨rfl, Or.inl ⟨rfl, _, _, rfl⟩⟩, Within.refl _ _ _⟩
  · refine (markSp_some g N cap 1 _ w hn (by omega) (by omega) h3).mono ?_
    rintro e w' ⟨rfl, a1, a2, _⟩
    exact ⟨_, rfl, ⟨rfl, Or.inr ⟨g, cap, rfl, h1, h2, a1⟩⟩, a2.mono h1 h2⟩
set_option maxHeartbeats 800000 in
theorem heldSp_none (ao : Option Addr) (cap : Nat) (k0 : Int) (w : World) : Calls Try.prog 27 #[.slice ao 0 cap, .int .i64 k0] w fun e w' => e = .returned (.int .i64 k0) ∧ w = w' := by
  go_enter Try.func27, Try.ntmps27
  go_wp2_with fail
  go_loopw [1, 5] (fun s i wr => s = .int .i64 k0 ∧ i = .int .i64 0 ∧ wr = w) (fun _ _ _ => 0)
  case atStart => exact ⟨rfl, rfl, rfl⟩
  case round =>
    obtain ⟨rfl, rfl, hwr⟩ := hrel
    obtain rfl := hwr.symm
    go_wp2
    go_ret
    exact ⟨rfl, rfl⟩
set_option maxRecDepth 20000 in
set_option maxHeartbeats 1600000 in
theorem heldSp_some (g n cap : Nat) (k0 : Int) (w : World) (hn : n ≤ 1048576) (hk0 : 0 ≤ k0) (hk1 : k0 ≤ 100000000) (hs : SegV w g 75 n 4 (fun i j => scell (msp (mSp k0 i)) j)) :
    Calls Try.prog 27 #[.slice (some ⟨g, 0, none⟩) n cap, .int .i64 k0] w fun e w' => e = .returned (.int .i64 (mSp k0 n)) ∧ w = w' := by
  have HS : Hid (SegV w g 75 n 4 (fun i j => scell (msp (mSp k0 i)) j)) := hs
  clear hs
  have hnI : (n : Int) ≤ 1048576 := by omega
  go_enter Try.func27, Try.ntmps27
  go_wp2_with fail
  go_loopw [1, 5] (fun s1 s5 wr => wr = w ∧ ∃ i : Nat, i ≤ n ∧ s1 = .int .i64 (mSp k0 i) ∧ s5 = .int .i64 i) (fun _ s5 _ => n - (intOf s5).toNat)
  case atStart => exact ⟨rfl, 0, Nat.zero_le _, by simp [mSp], rfl⟩
  case round =>
    obtain ⟨hwr, i, hi, rfl, rfl⟩ := hrel
    obtain rfl := hwr.symm
    by_cases hin : i < n
    · have a0 := HS.out.cell hin (show 0 < 4 by omega)
      have a1 := HS.out.cell hin (show 1 < 4 by omega)
      have a2 := HS.out.cell hin (show 2 < 4 by omega)
      have a3 := HS.out.cell hin (show 3 < 4 by omega)
      simp only [Nat.add_zero, scell, msp] at a0 a1 a2 a3
      have hiI : (i : Int) < n := by omega
      have hKn : mSp k0 (i + 1) = mSp k0 i + 1 + 1 + 1 + 1 := by unfold mSp; omega
      have hK0 : 0 ≤ mSp k0 i := by unfold mSp; omega
      have hK1 : mSp k0 i ≤ 500000000 := by unfold mSp; omega
      obtain ⟨K, hK⟩ : ∃ K : Int, K = mSp k0 i := ⟨_, rfl⟩
      have HK : Hid (mSp k0 (i + 1) = K + 1 + 1 + 1 + 1) := by rw [hK]; exact hKn
      rw [← hK] at hK0 hK1 a0 a1 a2 a3 ⊢
      clear hKn hK
      go_wp2
      go_roundw
      case rel => exact ⟨by trivial, i + 1, by omega, by rw [HK.out], by simp⟩
      case measure => simp [intOf]; omega
    · obtain rfl : i = n := by omega
      go_wp2
      go_ret
      exact ⟨rfl, rfl⟩
theorem heldJ_any {lo hi N : Nat} {w : World} {v : Value} {r : Int} (h : MkJ lo hi w v N r) (hn : N ≤ 1048576) : Calls Try.prog 27 #[v, .int .i64 1] w fun e w' => e = .returned (.int .i64 r) ∧ Below w.heap.size w w' := by
  obtain ⟨rfl, ⟨rfl, ao, cap, rfl⟩ | ⟨g, cap, rfl, h1, h2, h3⟩⟩ := h
  · exact (heldSp_none ao cap 1 w).mono fun e w' h => ⟨h.1, by rw [← h.2]; exact Below.refl _ _⟩
  · exact (heldSp_some g N cap 1 w hn (by omega) (by omega) h3).mono fun e w' h => ⟨h.1, by rw [← h.2]; exact Below.refl _ _⟩
theorem info75 : (Try.prog.info? 75).map (fun i => (i.zero, i.size, i.bytes)) = some (some (.agg #[.int .i64 0, .int .i64 0, .int .i64 0, .int .i64 0]), 4, 32) := infoSp
/-- 'append(list, spans...)'. -/
theorem pushJ {ops : Array Oper} {rest : List Oper} {o : Oper} {a : Act} {Q : Exit → Act → World → Prop} (hgd : o.guard = none) (s x : Operand)
    (ho : o.op = .call { callee := .builtin .append, args := #[s, x], argTypes := #[28, 28] }) (w : World) (lo : Nat) (v : Value) (k : Nat) (xs : List Value) (hs : a.eval s = v) (hown : w.ownsRow lo 75 4 v k xs) (g n c : Nat) (T : Nat → Mt.Sp) (hx : a.eval x = .slice (some ⟨g, 0, none⟩) n c) (hg : SegV w g 75 n 4 (fun i j => scell (T i) j)) (hk : k ≤ 2097152) (hn : n ≤ 2097152) (hbase : lo ≤ w.heap.size)
    (h : ∀ v' w', w'.ownsRow lo 75 4 v' (k + n) (xs ++ flat (fun i => spl (T i)) n) → Below lo w w' → (∀ b, b < lo → w'.heap[b]? = w.heap[b]?) → wpList Try.prog ops Q rest (a.put o.dst v') w') :
    wpList Try.prog ops Q (o :: rest) a w := by
  obtain ⟨i, h1, h2, h3, h4⟩ := infoV_parts info75
  have hlen : (flat (fun i => spl (T i)) n).length = n * 4 := flat_len (m := 4) (fun _ => rfl) _
  refine wpList_append_own_at w hgd s x 28 ho lo 75 i _ 4 32 Try.underlying28 h1 h2 h3 h4 rfl (by decide) v k xs hs hown ⟨g, 0, none⟩ n c (flat (fun i => spl (T i)) n) hx hlen (fun j u hj => ?_) (fun u hu => ?_) (by unfold maxLen; omega) (by omega) hbase ?_
  · have hjl := (List.getElem?_eq_some_iff.1 hj).1
    rw [hlen] at hjl
    have e0 : (⟨g, 0, none⟩ : Addr).add j = ⟨g, j, none⟩ := by
      unfold Addr.add
      split
      · rename_i h; subst h; rfl
      · simp
    rw [e0]
    obtain ⟨q, l, rfl, hl⟩ : ∃ q l, j = q * 4 + l ∧ l < 4 := ⟨j / 4, j % 4, by omega, by omega⟩
    rw [flat_at (m := 4) (fun _ => rfl) (by omega) hl, spl_at _ _ hl] at hj
    rw [hg.cell (by omega) hl]
    exact hj
  · obtain ⟨q, _, hq⟩ := List.mem_flatMap.1 hu
    simp [spl] at hq
    rcases hq with rfl | rfl | rfl | rfl <;> rfl
  · intro v' w' r1 r2 _ _
    have hb : Below lo w w' := (Below.refl lo w).grown r2 hbase fun b hb => (hown.lt b hb).1
    exact h v' w' r1 hb fun b hb2 => hb.block b hb2
end Go.Proofs.Ytelejihgechmgaa
