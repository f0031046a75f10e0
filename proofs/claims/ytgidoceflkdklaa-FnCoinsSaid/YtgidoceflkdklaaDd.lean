/- Coins of the program, where the list lies; a whole list appended at a step of a region that draws its order. -/
import Derived.Test.YtgidoceflkdklaaDc
namespace Go.Proofs.Ytgidoceflkdklaa
open Go.RowKit Fl
set_option linter.unusedVariables false
set_option linter.unusedSimpArgs false
set_option maxRecDepth 20000 in
set_option maxHeartbeats 3200000 in
theorem iCoins_some (s m : Int) (n : Nat) (h : Ck s n m) (w : World) : Calls Try.prog 16 #[.int .i64 s, .int .i64 n, .int .i64 m] w fun e w' => ∃ g, e = .returned (Fx 0 (.slice (some ⟨g, 0, none⟩) n n) (cx s n)) ∧ w.heap.size ≤ g ∧ g < w'.heap.size ∧ Seg w' g 2 0 n (fun i => .int .i64 (cx s (i + 1) % m)) ∧ Below w.heap.size w w' := by
  obtain ⟨-, n1, m0, m1, s0, s1⟩ := h
  have CB : Hid (∀ k, 0 ≤ cx s k ∧ cx s k < 2147483647) := cx_bd s0 s1
  have hn : n ≤ 4096 := by omega
  have hmk := run_make_row' (P := Try.prog) 26 2 (.int .i64 0) 8 Try.underlying26 info2 rfl .i64 .i64 n (by omega) (by omega)
  have hm0 : m ≠ 0 := by omega
  go_enter Try.func16, Try.ntmps16
  go_wp2_with fail
  clear hmk
  go_loopw [8, 37] (fun x i wr => ∃ k : Nat, k ≤ n ∧ i = .int .i64 k ∧ x = .int .i64 (cx s k) ∧ Seg wr (w.heap.size + 1) 2 0 n (fun j => if j < k then .int .i64 (cx s (j + 1) % m) else .int .i64 0) ∧ Below w.heap.size w wr ∧ wr.heap.size = w.heap.size + 2 ∧ Blk wr w.heap.size #[.int .i64 0, .slice none 0 0, .int .i64 0] 28) (fun _ i _ => n - (intOf i).toNat)
  case atStart =>
    refine ⟨0, Nat.zero_le _, rfl, rfl, ?_, ((Below.refl _ _).alloc (Nat.le_refl _) _).alloc (by simp) _, by simp, (Blk.new rfl).alloc _⟩
    have h := seg_made (w.alloc (.cells #[.int .i64 0, .slice none 0 0, .int .i64 0] 28)) (.int .i64 0) n 2
    rw [show (w.alloc (.cells #[.int .i64 0, .slice none 0 0, .int .i64 0] 28)).heap.size = w.heap.size + 1 by simp] at h
    exact h.congr fun j _ => by simp
  case round =>
    obtain ⟨k, hk, rfl, rfl, hs, hb, hz, hbl⟩ := hrel
    by_cases hkn : k < n
    · have g2 : wr.cell? ⟨w.heap.size + 1, k, none⟩ = some (.int .i64 0) := by simpa using hs.cell hkn
      have g3 : wr.frozen? ⟨w.heap.size + 1, k, none⟩ = false := hs.frozen k
      have HS : Hid (Seg wr (w.heap.size + 1) 2 0 n (fun j => if j < k then .int .i64 (cx s (j + 1) % m) else .int .i64 0) ∧ Below w.heap.size w wr ∧ wr.heap.size = w.heap.size + 2 ∧ Blk wr w.heap.size #[.int .i64 0, .slice none 0 0, .int .i64 0] 28) := ⟨hs, hb, hz, hbl⟩
      obtain ⟨hX0, hX1⟩ := CB.out k
      obtain ⟨hY0, hY1⟩ := CB.out (k + 1)
      obtain ⟨X, hXe⟩ : ∃ X, X = cx s k := ⟨_, rfl⟩
      obtain ⟨Y, hYe⟩ : ∃ Y, Y = cx s (k + 1) := ⟨_, rfl⟩
      have r2 : (48271 * X + 11) % 2147483647 = Y := by rw [hXe, hYe]; rfl
      rw [← hXe] at hX0 hX1 ⊢
      rw [← hYe] at hY0 hY1
      have EY : Hid (Y = cx s (k + 1)) := hYe
      clear hXe hYe
      have t2 : (48271 * X + 11).tmod 2147483647 = Y := by rw [Int.tmod_eq_emod_of_nonneg (by omega)]; exact r2
      have t3 : Y.tmod m = Y % m := Int.tmod_eq_emod_of_nonneg hY0
      have hq0 := Int.emod_nonneg Y hm0
      have hq1 := Int.emod_lt_of_pos Y (show 0 < m by omega)
      clear hs hb hz hbl
      go_wp2
      go_roundw
      case rel =>
        obtain ⟨hs, hb, hz, hbl⟩ := HS.out
        refine ⟨k + 1, by omega, by simp, ?_, ?_, hb.setCell (by simp) _, by simpa using hz, hbl.setOther (by simp) _⟩
        · rw [EY.out]
        · have := hs.set k hkn (.int .i64 (Y % m))
          rw [Nat.zero_add] at this
          refine this.congr fun j hj => ?_
          by_cases e : j = k
          · subst e; simp [EY.out]
          · by_cases e2 : j < k
            · simp [e, e2, Nat.lt_succ_of_lt e2]
            · simp [e, e2]; intro h; omega
      case measure => simp [intOf]; omega
    · obtain rfl : k = n := by omega
      have c0 := hbl.cell (j := 0) (v := .int .i64 0) rfl
      have c1 := hbl.cell (j := 1) (v := .slice none 0 0) rfl
      have c2 := hbl.cell (j := 2) (v := .int .i64 0) rfl
      have f0 := hbl.frozen 0
      have f1 := hbl.frozen 1
      have f2 := hbl.frozen 2
      have HS : Hid (Seg wr (w.heap.size + 1) 2 0 k (fun j => if j < k then .int .i64 (cx s (j + 1) % m) else .int .i64 0) ∧ Below w.heap.size w wr ∧ wr.heap.size = w.heap.size + 2 ∧ Blk wr w.heap.size #[.int .i64 0, .slice none 0 0, .int .i64 0] 28) := ⟨hs, hb, hz, hbl⟩
      clear hs hb hz hbl
      go_wp2
      obtain ⟨hs, hb, hz, hbl⟩ := HS.out
      refine bodyPost_ret (v := Fx 0 (.slice (some ⟨w.heap.size + 1, 0, none⟩) k k) (cx s k)) (by simp [results, Try.results16, go_sem, c0, c1, c2]) rfl ⟨w.heap.size + 1, rfl, by omega, by simp; omega, ?_, by go_grown⟩
      exact (((hs.setOther (by simp) _).setOther (by simp) _).setOther (by simp) _).congr fun j hj => by simp [hj]
theorem il_app (f g : Nat → Int) (n m : Nat) : il f n ++ il g m = il (fun i => if i < n then f i else g (i - n)) (n + m) := by
  apply List.ext_getElem?
  intro j
  by_cases h : j < n
  · rw [List.getElem?_append_left (by simpa [il] using h), il_at f h, il_at _ (show j < n + m by omega)]
    simp [h]
  · rw [List.getElem?_append_right (by simp [il]; omega)]
    have hl : (il f n).length = n := by simp [il]
    rw [hl]
    by_cases h2 : j < n + m
    · rw [il_at g (show j - n < m by omega), il_at _ h2]
      simp [h]
    · rw [List.getElem?_eq_none (by simp [il]; omega), List.getElem?_eq_none (by simp [il]; omega)]
theorem step_app {ops : Array Oper} {o : Oper} {a : Act} {K : Act → World → Prop} {Q : Exit → Act → World → Prop} {E : Prop} (hw : Region.wanted o (yielded ops a.tmps) = true) (s x : Operand)
    (ho : o.op = .call { callee := .builtin .append, args := #[s, x], argTypes := #[26, 26] }) (w : World) (base : Nat) (v : Value) (n : Nat) (f : Nat → Int) (hs : a.eval s = v) (hown : w.ownsRow base 2 1 v n (il f n)) (b m c : Nat) (g : Nat → Int) (hx : a.eval x = .slice (some ⟨b, 0, none⟩) m c)
    (hg : Seg w b 2 0 m (fun i => .int .i64 (g i))) (hn : n + m ≤ 1000000) (hbase : base ≤ w.heap.size)
    (h : ∀ v' w', w'.ownsRow base 2 1 v' (n + m) (il (fun i => if i < n then f i else g (i - n)) (n + m)) → w.grownBy w' v.ownBlock → K (a.put o.dst v') w') :
    if Region.wanted o (yielded ops a.tmps) = true then Oper.wp Try.prog o a w K Q else E := by
  rw [if_pos hw]
  obtain ⟨i, h1, h2, h3, h4⟩ := info_parts info2
  have e := il_app f g n m
  refine wp_append_own w s x 26 ho base 2 i (.int .i64 0) 1 8 Try.underlying26 h1 h2 h3 h4 rfl (by decide) v n (il f n) hs hown ⟨b, 0, none⟩ m c (il g m) hx (by simp [il]) ?_ ?_ (by show n + m ≤ 9223372036854775807; omega) (by omega) hbase fun v' w' a1 a2 _ => h v' w' (by rw [← e]; exact a1) a2
  · intro j u hj
    have hjm : j < m := by have := (List.getElem?_eq_some_iff.1 hj).1; simpa [il] using this
    rw [il_at g hjm] at hj
    have e0 : (⟨b, 0, none⟩ : Addr).add j = ⟨b, 0 + j, none⟩ := by
      unfold Addr.add
      split
      · rename_i h; subst h; rfl
      · simp
    rw [e0, hg.cell hjm]
    exact hj
  · intro u hu
    obtain ⟨_, _, e⟩ := List.mem_map.1 hu
    rw [← e]
    rfl
end Go.Proofs.Ytgidoceflkdklaa
