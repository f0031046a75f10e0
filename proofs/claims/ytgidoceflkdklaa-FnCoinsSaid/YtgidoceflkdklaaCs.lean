/- Coins: the specification. -/
import Derived.Test.YtgidoceflkdklaaCo
namespace Go.Proofs.Ytgidoceflkdklaa
open Go.RowKit Fl
set_option linter.unusedVariables false
set_option linter.unusedSimpArgs false
theorem caold {W : World} {o : Obj} {p : Addr} {v : Value} (h : W.cell? p = some v) : (W.alloc o).cell? p = some v := by rw [(Below.refl _ _ |>.alloc (Nat.le_refl _) o).cell (World.block_lt_of_cell? _ _ h)]; exact h
theorem owns_set {w : World} {base n m c j : Nat} {t : TypeId} {v x : Value} {xs : List Value} (h : w.ownsRow base t m v n xs) (hc : c < base) : (w.setCell ⟨c, j, none⟩ x).ownsRow base t m v n xs := by
  obtain ⟨h0, h | ⟨g, cap, cur, hv, hg, hh, r⟩⟩ := h
  · exact ⟨h0, Or.inl h⟩
  · exact ⟨h0, Or.inr ⟨g, cap, cur, hv, hg, (Below.heap_setCell _ _ _ _ (by simp; omega)).trans hh, r⟩⟩
structure Cb (w wr : World) (v : Value) (s m : Int) (k : Nat) : Prop where
  own : wr.ownsRow (w.heap.size + 2) 2 1 v k (il (fun i => cx s (i + 1) % m) k)
  box : Blk wr (w.heap.size + 1) #[.int .i64 0, v, .int .i64 (cx s k)] 28
  res : Blk wr w.heap.size #[.int .i64 0, .slice none 0 0, .int .i64 0] 28
  below : Below w.heap.size w wr
  lt : w.heap.size + 2 ≤ wr.heap.size
set_option maxRecDepth 20000 in
set_option maxHeartbeats 3200000 in
theorem sCoins_good (s m : Int) (n : Nat) (h : Ck s n m) (w : World) : FX 15 #[.int .i64 s, .int .i64 n, .int .i64 m] w 0 n (fun i => cx s (i + 1) % m) (cx s n) := by
  unfold FX
  obtain ⟨-, n1, m0, m1, s0, s1⟩ := h
  have CB : Hid (∀ k, 0 ≤ cx s k ∧ cx s k < 2147483647) := cx_bd s0 s1
  have hn : n ≤ 4096 := by omega
  have hm0 : m ≠ 0 := by omega
  go_enter Try.func15, Try.ntmps15
  go_wp2_with fail
  go_loopw [8] (fun i wr => ∃ (k : Nat) (v : Value), k ≤ n ∧ i = .int .i64 k ∧ Hid (Cb w wr v s m k)) (fun i _ => n - (intOf i).toNat)
  case atStart =>
    refine ⟨0, .slice none 0 0, Nat.zero_le _, rfl, ?_⟩
    exact ⟨owns_nil _ _ _ _, Blk.new (by simp), (Blk.new rfl).alloc _, ((Below.refl _ _).alloc (Nat.le_refl _) _).alloc (by simp) _, by simp⟩
  case round =>
    obtain ⟨k, v, hk, rfl, HB⟩ := hrel
    by_cases hkn : k < n
    · obtain ⟨hX0, hX1⟩ := CB.out k
      obtain ⟨hY0, hY1⟩ := CB.out (k + 1)
      have BX := HB.out.box
      obtain ⟨X, hXe⟩ : ∃ X, X = cx s k := ⟨_, rfl⟩
      obtain ⟨Y, hYe⟩ : ∃ Y, Y = cx s (k + 1) := ⟨_, rfl⟩
      have r2 : (48271 * X + 11) % 2147483647 = Y := by rw [hXe, hYe]; rfl
      rw [← hXe] at hX0 hX1 BX
      rw [← hYe] at hY0 hY1
      have EY : Hid (Y = cx s (k + 1)) := hYe
      clear hXe hYe
      have t2 : (48271 * X + 11).tmod 2147483647 = Y := by rw [Int.tmod_eq_emod_of_nonneg (by omega)]; exact r2
      have t3 : Y.tmod m = Y % m := Int.tmod_eq_emod_of_nonneg hY0
      have hq0 := Int.emod_nonneg Y hm0
      have hq1 := Int.emod_lt_of_pos Y (show 0 < m by omega)
      have c2 := BX.cell (j := 2) (v := .int .i64 X) rfl
      have f2 := BX.frozen 2
      have BX1 : Hid (Blk wr (w.heap.size + 1) #[.int .i64 0, v, .int .i64 X] 28) := BX
      clear BX
      go_upto_region 8 with fail
      obtain ⟨U, hU⟩ : ∃ W, W = wr.setCell ⟨w.heap.size + 1, 2, none⟩ (.int .i64 Y) := ⟨_, rfl⟩
      have O1 : Hid (U.drew.ownsRow (w.heap.size + 2) 2 1 v k (il (fun i => cx s (i + 1) % m) k)) := by show U.ownsRow _ _ _ _ _ _; rw [hU]; exact owns_set HB.out.own (by omega)
      have BU : Hid (Blk U.drew (w.heap.size + 1) #[.int .i64 0, v, .int .i64 Y] 28) := by show Blk _ _ _ _; rw [hU]; exact BX1.out.set 2 _ rfl
      have RU : Hid (Blk U.drew w.heap.size #[.int .i64 0, .slice none 0 0, .int .i64 0] 28) := by show Blk _ _ _ _; rw [hU]; exact HB.out.res.setOther (by simp) _
      have LU : Hid (Below w.heap.size w U.drew) := by show Below _ _ _; rw [hU]; exact (HB.out.below.setCell (by simp) _).drew
      have Z1 : Hid (w.heap.size + 2 ≤ U.drew.heap.size) := by show _ ≤ _; rw [hU]; simpa using HB.out.lt
      rw [← hU]
      clear hU BX1 c2 f2 HB
      have c1 := BU.out.cell (j := 1) (v := v) rfl
      have c2 := BU.out.cell (j := 2) (v := .int .i64 Y) rfl
      have hk9 : k ≤ 1000000000 := by omega

      have z1 : w.heap.size + 2 ≤ U.heap.size := Z1.out
      have d1 : U.cell? ⟨w.heap.size + 1, 1, none⟩ = some v := c1
      have d2 : U.cell? ⟨w.heap.size + 1, 2, none⟩ = some (.int .i64 Y) := c2
      have q1 : ∀ ob, (U.alloc ob).cell? ⟨w.heap.size + 1, 1, none⟩ = some v := fun ob => caold d1
      have q2 : ∀ ob, (U.alloc ob).cell? ⟨w.heap.size + 1, 2, none⟩ = some (.int .i64 Y) := fun ob => caold d2
      go_region_law (first | (refine step_push rfl (.tmp 46) (.tmp 51) 26 rfl 2 (.int .i64 0) 1 8 Try.underlying26 info2 rfl (by decide) (by decide) U.drew [.int .i64 (Y % m)] rfl (by intro u hu; simp at hu; subst hu; rfl) (w.heap.size + 2) v k _ (by simp [Act.eval]) O1.out 1 (by simp [Act.eval]) hk9 Z1.out ?_; rintro v1 w3 own3 grow3 ⟨g, cp, rfl⟩; have b3 : Below (w.heap.size + 2) U.drew w3 := push_below O1.out grow3 (Below.refl _ _) Z1.out; have b4 : Below (w.heap.size + 2) U w3 := ((Below.refl _ _).drew).trans b3; have B3 : Hid (Blk w3 (w.heap.size + 1) #[.int .i64 0, v, .int .i64 Y] 28) := (b3.block _ (by omega)).trans BU.out; have f1 := B3.out.frozen 1; have c1' := B3.out.cell (j := 1) (v := v) rfl))
      all_goals
        have HN : Hid (Cb w (w3.setCell ⟨w.heap.size + 1, 1, none⟩ (.slice (some ⟨g, 0, none⟩) (k + 1) cp)) (.slice (some ⟨g, 0, none⟩) (k + 1) cp) s m (k + 1)) := by
          have hh : Cb w (w3.setCell ⟨w.heap.size + 1, 1, none⟩ (.slice (some ⟨g, 0, none⟩) (k + 1) cp)) (.slice (some ⟨g, 0, none⟩) (k + 1) cp) s m (k + 1) := by
            refine ⟨owns_set ?_ (by omega), ?_, ?_, ?_, ?_⟩
            · rw [← il_push]
              show w3.ownsRow (w.heap.size + 2) 2 1 _ (k + 1) (il _ k ++ [.int .i64 (cx s (k + 1) % m)])
              rw [← EY.out]
              exact own3
            · rw [← EY.out]
              exact B3.out.set 1 _ rfl
            · exact Blk.setOther (show Blk w3 _ _ _ from (b3.block _ (by omega)).trans RU.out) (by simp) _
            · exact (LU.out.trans (b3.mono (by omega))).setCell (by simp) _
            · have := b3.size
              have := Z1.out
              simp
              omega
          exact hh
        clear own3 grow3 b3 b4 B3 f1 c1' RU LU BU O1 Z1 z1 q1 q2 d1 d2 c1 c2
        go_wp2
        refine ⟨⟨k + 1, _, by omega, by simp, HN⟩, by simp [intOf]; omega⟩
    · obtain rfl : k = n := by omega
      have b0 := HB.out.box.cell (j := 0) (v := .int .i64 0) rfl
      have b1 := HB.out.box.cell (j := 1) (v := v) rfl
      have b2 := HB.out.box.cell (j := 2) (v := .int .i64 (cx s k)) rfl
      have c0 := HB.out.res.cell (j := 0) (v := .int .i64 0) rfl
      have c1 := HB.out.res.cell (j := 1) (v := .slice none 0 0) rfl
      have c2 := HB.out.res.cell (j := 2) (v := .int .i64 0) rfl
      have f0 := HB.out.res.frozen 0
      have f1 := HB.out.res.frozen 1
      have f2 := HB.out.res.frozen 2
      have HO : Hid (OwS 2 (w.heap.size + 2) wr.heap.size wr v k (fun i => .int .i64 (cx s (i + 1) % m)) ∧ Below w.heap.size w wr) := ⟨owned_il HB.out.own, HB.out.below⟩
      obtain ⟨ao, cap, rfl⟩ := HO.out.1.form
      clear HB
      go_wp2
      refine bodyPost_ret (v := Fx 0 (.slice ao k cap) (cx s k)) (by simp [results, Try.results15, go_sem, c0, c1, c2]) rfl ⟨_, rfl, ?_, ((HO.out.2.setCell (by simp) _).setCell (by simp) _).setCell (by simp) _⟩
      rcases HO.out.1 with ⟨e1, e2⟩ | ⟨g, cp, e1, h1, h2, h3⟩
      · exact Or.inl ⟨e1, e2⟩
      · exact Or.inr ⟨g, cp, e1, by omega, by simpa using h2, ((h3.setOther (by simp; omega) _).setOther (by simp; omega) _).setOther (by simp; omega) _⟩
end Go.Proofs.Ytgidoceflkdklaa
