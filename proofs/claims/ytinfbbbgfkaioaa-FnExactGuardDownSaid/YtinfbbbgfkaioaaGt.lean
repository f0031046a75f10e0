/- slices.Delete of one guard, in its place: contract. -/
import Derived.Test.YtinfbbbgfkaioaaGs
import Derived.BigRegion
import Derived.Deep.RegionLaw
namespace Go.Proofs.Ytinfbbbgfkaioaa
open Go.RowKit
set_option linter.unusedVariables false
set_option linter.unusedSimpArgs false
theorem run_clear_gd {w : World} {g d n c : Nat} {f : Nat → Nat → Value} (ty : TypeId) (h : SegV w g 77 n 2 f) (hd : d < n) :
    (Builtin.clear_ #[31] ty #[.slice (some ⟨g, d * 2, none⟩) 1 c]).run Try.prog w = .ok (.tuple #[]) (w.setCells g (d * 2) [.int .i64 0, .int .i64 0]) := by
  have hz : (Builtin.zeroCells (Value.agg #[.int .i64 0, .int .i64 0]).cells 1).toList = [.int .i64 0, .int .i64 0] := by kernel_rfl
  have hst := run_storeCells_cells (P := Try.prog) g (d * 2) [.int .i64 0, .int .i64 0] 0 w (by
    intro j hj
    rw [Nat.add_zero, h.cell hd (by simpa using hj)]
    rfl) (by intro j hj; exact h.frozen _) (by simp [Value.oneCell'])
  simp only [Nat.add_zero] at hst
  simp [Builtin.clear_, run_underlying Try.underlying31, zero77, hz, hst]
theorem seg_some {w : World} {g N t : Nat} {G : Nat → Gu} (h : SegV w g 77 (N + 1) 2 (fun i j => gcell (G i) j)) (ht : t < N + 1) : ∃ f, SegV (w.setCells g (t * 2) (flat (fun i => grow2 (G (t + 1 + i))) (N - t))) g 77 (N + 1) 2 f := by
  obtain ⟨c, hb, hc⟩ := h
  have hsz : N * 2 + 1 < c.size := (Array.getElem?_eq_some_iff.1 (hc N (by omega) 1 (by omega))).1
  have hlen : (flat (fun i => grow2 (G (t + 1 + i))) (N - t)).length = (N - t) * 2 := flat_len (m := 2) (fun _ => rfl) _
  obtain ⟨c1, e1, e2, e3⟩ := blk_setCells (flat (fun i => grow2 (G (t + 1 + i))) (N - t)) (t * 2) w c hb (by rw [hlen]; omega)
  refine ⟨fun i j => (c1[i * 2 + j]?).getD (.int .i64 0), c1, e1, fun i hi j hj => ?_⟩
  have : i * 2 + j < c1.size := by omega
  simp [this]
theorem run_cut {w : World} {g N t cap : Nat} {G : Nat → Gu} (ty : TypeId) (h : SegV w g 77 (N + 1) 2 (fun i j => gcell (G i) j)) (ht : t < N + 1) (hcap : N + 1 ≤ cap) (c2 : Nat) :
    (Builtin.append_ #[31, 31] ty #[.slice (some ⟨g, 0, none⟩) t cap, .slice (some ⟨g, (t + 1) * 2, none⟩) (N - t) c2]).run Try.prog w = .ok (.slice (some ⟨g, 0, none⟩) N cap) (w.setCells g (t * 2) (flat (fun i => grow2 (G (t + 1 + i))) (N - t))) := by
  obtain ⟨i, h1, h2, h3, h4⟩ := infoV_parts infoGd
  have hlen : (flat (fun i => grow2 (G (t + 1 + i))) (N - t)).length = (N - t) * 2 := flat_len (m := 2) (fun _ => rfl) _
  have hat : ∀ k l, k < N - t → l < 2 → (flat (fun i => grow2 (G (t + 1 + i))) (N - t))[k * 2 + l]? = some (gcell (G (t + 1 + k)) l) := fun k l hk hl => by
    rw [flat_at (m := 2) (fun _ => rfl) hk hl]
    exact grow2_at _ l hl
  have hs : Src Try.prog i.size 31 (.slice (some ⟨g, (t + 1) * 2, none⟩) (N - t) c2) (N - t) (flat (fun i => grow2 (G (t + 1 + i))) (N - t)) w := by
    refine Src.ofSlice w Try.underlying31 _ _ _ _ (by rw [hlen, h3]) (fun j u hj => ?_) (fun u hu => ?_)
    · have hjl := (List.getElem?_eq_some_iff.1 hj).1
      rw [hlen] at hjl
      have e0 : (⟨g, (t + 1) * 2, none⟩ : Addr).add j = ⟨g, (t + 1) * 2 + j, none⟩ := by
        unfold Addr.add
        split
        · rename_i h; subst h; rfl
        · simp
      rw [e0]
      obtain ⟨k, l, rfl, hl⟩ : ∃ k l, j = k * 2 + l ∧ l < 2 := ⟨j / 2, j % 2, by omega, by omega⟩
      rw [hat k l (by omega) hl] at hj
      rw [show (t + 1) * 2 + (k * 2 + l) = (t + 1 + k) * 2 + l by omega, h.cell (by omega) hl]
      exact hj
    · obtain ⟨k, hk, hu⟩ := List.mem_flatMap.1 hu
      exact grow2_one _ u hu
  have := run_append_room_src w 31 31 ty 77 i Try.underlying31 h1 g 0 t cap _ (N - t) _ hs (by omega) (fun j hj => ?_) (fun j hj => h.frozen _)
  · rw [this, h3, Nat.zero_add, show t + (N - t) = N by omega]
  · rw [hlen] at hj
    rw [h3, Nat.zero_add]
    obtain ⟨k, l, rfl, hl⟩ : ∃ k l, j = k * 2 + l ∧ l < 2 := ⟨j / 2, j % 2, by omega, by omega⟩
    rw [show t * 2 + (k * 2 + l) = (t + k) * 2 + l by omega, h.cell (by omega) hl]
    rfl
theorem run_cut2 {w : World} {g N t cap : Nat} {G : Nat → Gu} (ty : TypeId) (h : SegV w g 77 (N + 1) 2 (fun i j => gcell (G i) j)) (ht : t < N + 1) (hcap : N + 1 ≤ cap) (c2 : Nat) :
    (Builtin.append_ #[31, 31] ty #[.slice (some ⟨g, 0, none⟩) t cap, .slice (if cap = t + 1 then some ⟨g, 0, none⟩ else some ⟨g, (t + 1) * 2, none⟩) (N - t) c2]).run Try.prog w = .ok (.slice (some ⟨g, 0, none⟩) N cap) (w.setCells g (t * 2) (flat (fun i => grow2 (G (t + 1 + i))) (N - t))) := by
  by_cases e : cap = t + 1
  · rw [if_pos e]
    obtain rfl : t = N := by omega
    rw [Nat.sub_self, flat_zero]
    obtain ⟨i, h1, h2, h3, h4⟩ := infoV_parts infoGd
    have hs : Src Try.prog i.size 31 (.slice (some ⟨g, 0, none⟩) 0 c2) 0 [] w := Src.ofSlice w Try.underlying31 _ _ _ _ (by simp) (fun j u hj => by simp at hj) (fun u hu => by simp at hu)
    have := run_append_room_src w 31 31 ty 77 i Try.underlying31 h1 g 0 t cap _ 0 _ hs (by omega) (fun j hj => by simp at hj) (fun j hj => by simp at hj)
    rw [this, h3, Nat.zero_add, Nat.add_zero]
  · rw [if_neg e]
    exact run_cut ty h ht hcap c2
theorem step_app_run {ops : Array Oper} {o : Oper} {a : Act} {w W' : World} {K : Act → World → Prop} {Q : Exit → Act → World → Prop} {E : Prop}
    (hg : o.guard = none) (s x : Operand) (t : TypeId) (hop : o.op = Op.call { callee := Callee.builtin Builtin.append, args := #[s, x], argTypes := #[t, t] }) (vs vx v : Value) (hs : a.eval s = vs) (hx : a.eval x = vx)
    (hrun : ∀ ty, (Builtin.append_ #[t, t] ty #[vs, vx]).run Try.prog w = .ok v W') (hK : K (a.put o.dst v) W') : if Region.wanted o (yielded ops a.tmps) = true then Oper.wp Try.prog o a w K Q else E := by
  have hw : Region.wanted o (yielded ops a.tmps) = true := by simp [Region.wanted, hg]
  rw [if_pos hw]
  unfold Oper.wp
  simp [execOp, hop, resolve, invoke, builtin, hs, hx, hrun, Result.andThen]
  exact hK
set_option maxRecDepth 20000 in
set_option maxHeartbeats 3200000 in
theorem delOne_any {w : World} {g N t cap : Nat} {G : Nat → Gu} (h : SegV w g 77 (N + 1) 2 (fun i j => gcell (G i) j)) (ht : t < N + 1) (hcap : N + 1 ≤ cap) (hn : N + 1 ≤ 1048576) :
    Calls Try.prog 57 #[.slice (some ⟨g, 0, none⟩) (N + 1) cap, .int .i64 t, .int .i64 (t + 1)] w fun e w' => e = .returned (.slice (some ⟨g, 0, none⟩) N cap) ∧ SegV w' g 77 N 2 (fun i j => gcell (G (skp t i)) j) ∧ Onl g w w' := by
  have hapD : ∀ ty c2, (Builtin.append_ #[31, 31] ty #[.slice (some ⟨g, 0, none⟩) t cap, .slice (if cap = t + 1 then some ⟨g, 0, none⟩ else some ⟨g, (t + 1) * 2, none⟩) (N - t) c2]).run Try.prog w.drew = .ok (.slice (some ⟨g, 0, none⟩) N cap) (w.drew.setCells g (t * 2) (flat (fun i => grow2 (G (t + 1 + i))) (N - t))) := fun ty c2 => run_cut2 (w := w.drew) ty (h.of_block rfl) ht hcap c2
  obtain ⟨V, hV⟩ : ∃ V, V = w.drew.setCells g (t * 2) (flat (fun i => grow2 (G (t + 1 + i))) (N - t)) := ⟨_, rfl⟩
  have HZ : Hid (SegV (V.setCells g (N * 2) [.int .i64 0, .int .i64 0]) g 77 N 2 (fun i j => gcell (G (skp t i)) j) ∧ Onl g w (V.setCells g (N * 2) [.int .i64 0, .int .i64 0])) := by
    have h1 : SegV w.drew g 77 (N + 1) 2 (fun i j => gcell (G i) j) := h.of_block rfl
    rw [hV]
    exact ⟨seg_cut h1 ht, onl_cut (Onl.of_below ((Below.refl _ _).drew) (Nat.le_of_lt h.lt))⟩
  have hcl : ∀ ty c, (Builtin.clear_ #[31] ty #[.slice (some ⟨g, N * 2, none⟩) 1 c]).run Try.prog V = .ok (.tuple #[]) (V.setCells g (N * 2) [.int .i64 0, .int .i64 0]) := fun ty c => by
    obtain ⟨f, hf⟩ := seg_some (w := w.drew) (G := G) (t := t) (N := N) (g := g) (h.of_block rfl) ht
    rw [← hV] at hf
    exact run_clear_gd ty hf (by omega)
  obtain ⟨Z, hZ⟩ : ∃ Z, Z = V.setCells g (N * 2) [.int .i64 0, .int .i64 0] := ⟨_, rfl⟩
  rw [← hZ] at HZ hcl
  rw [← hV] at hapD
  clear h hV hZ
  have htI : (t : Int) < N + 1 := by omega
  have hnI : (N : Int) + 1 ≤ 1048576 := by omega
  have hcI : (N : Int) + 1 ≤ cap := by omega
  have htc : t ≤ cap := by omega
  have htcI : (t : Int) ≤ cap := by omega
  have hcN : ¬ cap = N := by omega
  have e1 : ((t : Int) == (t : Int) + 1) = false := by simp; omega
  go_enter Try.func57, Try.ntmps57
  go_upto_region 5 with fail
  have htN : t ≤ N := by omega
  by_cases hct : cap = t + 1
  · have hap2 := hapD
    simp only [if_pos hct] at hap2
    clear hapD
    obtain rfl : t = N := by omega
    subst hct
    rw [Nat.sub_self] at hap2
    have htt : (t : Int) ≤ (t : Int) + 1 := by omega
    have ht1 : 0 ≤ (t : Int) + 1 := by omega
    go_region_law (first | (refine step_app_run rfl (.tmp 22) (.tmp 25) 31 rfl (.slice (some ⟨g, 0, none⟩) t (t + 1)) (.slice (some ⟨g, 0, none⟩) 0 0) _ (by simp [Act.eval, Act.put]) (by simp [Act.eval, Act.put]) (fun ty => hap2 ty 0) ?_))
    all_goals
      go_wp2
      go_ret
      exact ⟨rfl, HZ.out.1, HZ.out.2⟩
  · have hap2 := hapD
    simp only [if_neg hct] at hap2
    clear hapD
    have ht1 : 0 ≤ (t : Int) + 1 := by omega
    go_region_law (first | (refine step_app_run rfl (.tmp 22) (.tmp 25) 31 rfl (.slice (some ⟨g, 0, none⟩) t cap) (.slice (some ⟨g, (t + 1) * 2, none⟩) (N - t) (cap - (t + 1))) _ (by simp [Act.eval, Act.put]) (by simp [Act.eval, Act.put]) (fun ty => hap2 ty _) ?_))
    all_goals
      go_wp2
      go_ret
      exact ⟨rfl, HZ.out.1, HZ.out.2⟩
end Go.Proofs.Ytinfbbbgfkaioaa
