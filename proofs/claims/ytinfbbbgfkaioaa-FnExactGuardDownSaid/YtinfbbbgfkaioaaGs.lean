/- Guards: one is looked for, their list is copied, one is taken out of it in its place: contracts. -/
import Derived.Test.YtinfbbbgfkaioaaGp
import Derived.Test.YtinfbbbgfkaioaaOg
import Derived.Test.YtinfbbbgfkaioaaLk
import Derived.Lib.SliceRun
import Derived.Deep.AppendSrc
namespace Go.Proofs.Ytinfbbbgfkaioaa
open Go.RowKit
set_option linter.unusedVariables false
set_option linter.unusedSimpArgs false
set_option maxRecDepth 20000 in
set_option maxHeartbeats 1600000 in
theorem gwk_any (g : Gu) (id : Int) (q : Nat) (w : World) (h0 : w.cell? ⟨q, 0, none⟩ = some (.int .i64 id)) : Calls Try.prog 52 #[.agg #[.int .i64 g.wk, .int .i64 g.sp], .pointer (some ⟨q, 0, none⟩)] w fun e w' => e = .returned (.bool (g.wk == id)) ∧ Below w.heap.size w w' := by
  have hlt := World.block_lt_of_cell? _ _ h0
  go_enter Try.func52, Try.ntmps52
  go_wp2
  go_ret
  exact ⟨rfl, by go_grown⟩
set_option maxRecDepth 20000 in
set_option maxHeartbeats 1600000 in
theorem gwx_any {w : World} {ao : Option Addr} {n cap c : Nat} {G : Nat → Gu} (id : Int) (h : Rg w (.slice ao n cap) n G) (hn : n ≤ 1048576) (h0 : w.cell? ⟨c, 0, none⟩ = some (.int .i64 id)) :
    Calls Try.prog 51 #[.slice ao n cap, .func (.func 52) #[] #[.pointer (some ⟨c, 0, none⟩)]] w fun e w' => e = .returned (.int .i64 (fnd (gli G) id n)) ∧ Below w.heap.size w w' := by
  have HR : ∀ W, Below w.heap.size w W → Hid (Rg W (.slice ao n cap) n G ∧ W.cell? ⟨c, 0, none⟩ = some (.int .i64 id)) := fun W hb => ⟨h.later hb, kold hb h0⟩
  clear h h0
  have hnI : (n : Int) ≤ 1048576 := by omega
  go_enter Try.func51, Try.ntmps51
  go_wp2_with fail
  go_loopw [8] (fun i wr => ∃ k : Nat, k ≤ n ∧ i = .int .i64 k ∧ Hid (Below w.heap.size w wr) ∧ Hid (fnd (gli G) id k = -1)) (fun i _ => n - (intOf i).toNat)
  case atStart => exact ⟨0, Nat.zero_le _, rfl, Below.refl _ _, rfl⟩
  case round =>
    obtain ⟨k, hk, rfl, HB, HF⟩ := hrel
    by_cases hkn : k < n
    · obtain ⟨b, off, rfl, hc⟩ := (HR wr HB.out).out.1.at hkn
      have g0 : wr.cell? ⟨b, off + k * 2, none⟩ = some (.int .i64 (G k).wk) := hc 0 (by omega)
      have g1 : wr.cell? ⟨b, off + k * 2 + 1, none⟩ = some (.int .i64 (G k).sp) := hc 1 (by omega)
      have HC : ∀ W, Below wr.heap.size wr W → Calls Try.prog 52 #[.agg #[.int .i64 (G k).wk, .int .i64 (G k).sp], .pointer (some ⟨c, 0, none⟩)] W fun e w' => e = .returned (.bool ((G k).wk == id)) ∧ Below W.heap.size W w' := fun W hb => gwk_any (G k) id c W (kold hb (HR wr HB.out).out.2)
      have hkI : (k : Int) < n := by omega
      clear hc HR
      by_cases hj : (G k).wk = id
      · have HJ : Hid (fnd (gli G) id n = k) := fnd_at HF.out (by exact hj) hkn
        have hjb : ((G k).wk == id) = true := by simpa using hj
        clear hj
        go_wp2_with (first | (go_at_call 52; refine (HC _ (Below.refl _ _)).mono ?_; rintro e w1 ⟨rfl, hb1⟩; rw [hjb]))
        go_ret
        exact ⟨by rw [HJ.out]; rfl, HB.out.trans (hb1.mono HB.out.size)⟩
      · have HJ : Hid (fnd (gli G) id (k + 1) = -1) := fnd_next HF.out (by exact hj)
        have hjb : ((G k).wk == id) = false := by simpa using hj
        clear hj
        go_wp2_with (first | (go_at_call 52; refine (HC _ (Below.refl _ _)).mono ?_; rintro e w1 ⟨rfl, hb1⟩; rw [hjb]))
        go_roundw
        case rel => exact ⟨k + 1, by omega, by simp, HB.out.trans (hb1.mono HB.out.size), HJ⟩
        case measure => simp [intOf]; omega
    · obtain rfl : k = n := by omega
      clear HR
      go_wp2
      go_ret
      exact ⟨by rw [HF.out]; rfl, HB.out⟩
/-- A guard's cells as a list. -/
def grow2 (g : Gu) : List Value := [.int .i64 g.wk, .int .i64 g.sp]
theorem grow2_at (g : Gu) : ∀ j, j < 2 → (grow2 g)[j]? = some (gcell g j)
  | 0, _ => rfl
  | 1, _ => rfl
  | n + 2, h => absurd h (by omega)
theorem grow2_one (g : Gu) : ∀ u ∈ grow2 g, u.oneCell' = true := by
  intro u hu
  simp only [grow2, List.mem_cons, List.not_mem_nil, or_false] at hu
  rcases hu with rfl | rfl <;> rfl
theorem app_gds {ops : Array Oper} {rest : List Oper} {o : Oper} {a : Act} {Q : Exit → Act → World → Prop} (hgd : o.guard = none) (s x : Operand)
    (ho : o.op = .call { callee := .builtin .append, args := #[s, x], argTypes := #[31, 31] }) (w : World) (G : Nat → Gu) (n : Nat)
    (hs : a.eval s = .slice (some ⟨w.heap.size, 0, none⟩) 0 0) (b off c : Nat) (hx : a.eval x = .slice (some ⟨b, off, none⟩) n c) (hc : ∀ i, i < n → ∀ j, j < 2 → w.cell? ⟨b, off + i * 2 + j, none⟩ = some (gcell (G i) j)) (hn : n ≤ 2000000)
    (h : ∀ g cap w', n ≤ cap → w.heap.size ≤ g → SegV w' g 77 n 2 (fun i j => gcell (G i) j) → Below w.heap.size w w' → wpList Try.prog ops Q rest (a.put o.dst (.slice (some ⟨g, 0, none⟩) n cap)) w') : wpList Try.prog ops Q (o :: rest) a (w.alloc (.cells #[] 77)) :=
  app_whole hgd s x 31 ho 77 (.agg #[.int .i64 0, .int .i64 0]) 2 16 Try.underlying31 infoGd rfl (by decide) (by decide) w (fun i => grow2 (G i)) (fun _ => rfl) (fun i => grow2_one _) (fun i j => gcell (G i) j) n (fun i hi j hj => grow2_at _ j hj) hs b off c hx hc hn h
set_option maxRecDepth 20000 in
set_option maxHeartbeats 1600000 in
theorem cloneG_any {w : World} {ao : Option Addr} {n cap : Nat} {G : Nat → Gu} (h : Rg w (.slice ao n cap) n G) (h0 : 0 < n) (hn : n ≤ 1048576) :
    Calls Try.prog 58 #[.slice ao n cap] w fun e w' => ∃ (g c : Nat), e = .returned (.slice (some ⟨g, 0, none⟩) n c) ∧ n ≤ c ∧ w.heap.size ≤ g ∧ SegV w' g 77 n 2 (fun i j => gcell (G i) j) ∧ Below w.heap.size w w' := by
  obtain ⟨b, off, rfl, -⟩ := RdV.at h h0
  have H : Hid (∀ i, i < n → ∀ j, j < 2 → w.cell? ⟨b, off + i * 2 + j, none⟩ = some (gcell (G i) j)) := by
    intro i hi j hj
    obtain ⟨b2, off2, e, hc⟩ := RdV.at h hi
    simp only [Option.some.injEq, Addr.mk.injEq] at e
    obtain ⟨rfl, rfl, _⟩ := e
    exact hc j hj
  clear h
  have q31 : ∀ (w : World), (binOp .eql 31 (.slice (some ⟨b, off, none⟩) n cap) (.slice none 0 0)).run Try.prog w = .ok (.bool false) w := fun w => run_eql_nil_slice w 31 77 (some ⟨b, off, none⟩) n cap 0 0 Try.underlying31
  go_enter Try.func58, Try.ntmps58
  go_wp2_with (first | (at_builtin; refine app_gds rfl (.tmp 5) (.tmp 6) rfl _ G n rfl b off cap rfl H.out (by omega) ?_; intro g cp w1 hcp hg hsg hb1))
  have H1 : Hid (w.heap.size ≤ g ∧ SegV w1 g 77 n 2 (fun i j => gcell (G i) j) ∧ Below w.heap.size w w1) := ⟨hg, hsg, hb1⟩
  clear hg hsg hb1
  have HCP : Hid (n ≤ cp) := hcp
  clear hcp
  go_wp2
  go_ret
  exact ⟨g, cp, rfl, HCP.out, H1.out.1, H1.out.2.1, H1.out.2.2⟩
/-- A row of cells written into a block, told by the block. -/
theorem blk_setCells {g : Nat} {t : TypeId} : ∀ (vs : List Value) (o : Nat) (w : World) (c : Array Value), w.heap[g]? = some (.cells c t (0, 0)) → o + vs.length ≤ c.size →
    ∃ c' : Array Value, (w.setCells g o vs).heap[g]? = some (.cells c' t (0, 0)) ∧ c'.size = c.size ∧ ∀ k, c'[k]? = if o ≤ k ∧ k < o + vs.length then vs[k - o]? else c[k]?
  | [], o, w, c, h, _ => ⟨c, h, rfl, fun k => by rw [if_neg (by simp only [List.length_nil]; omega)]⟩
  | v :: vs, o, w, c, h, hl => by
    have hl' : o + (vs.length + 1) ≤ c.size := hl
    have h1 : (w.setCell ⟨g, o, none⟩ v).heap[g]? = some (.cells (c.setIfInBounds o v) t (0, 0)) := by simp [World.setCell, Array.getElem?_modify, h]
    obtain ⟨c', e1, e2, e3⟩ := blk_setCells vs (o + 1) (w.setCell ⟨g, o, none⟩ v) (c.setIfInBounds o v) h1 (by rw [Array.size_setIfInBounds]; omega)
    refine ⟨c', e1, by rw [e2, Array.size_setIfInBounds], fun k => ?_⟩
    rw [e3 k]
    by_cases a : o = k
    · subst a
      rw [if_neg (by omega), if_pos (by simp only [List.length_cons]; omega), Array.getElem?_setIfInBounds]
      have : o < c.size := by omega
      simp [this]
    · by_cases b : o + 1 ≤ k ∧ k < o + 1 + vs.length
      · rw [if_pos b, if_pos (by simp only [List.length_cons]; omega)]
        obtain ⟨j, rfl⟩ : ∃ j, k = o + 1 + j := ⟨k - (o + 1), by omega⟩
        rw [show o + 1 + j - (o + 1) = j by omega, show o + 1 + j - o = j + 1 by omega]
        rfl
      · rw [if_neg b, if_neg (by simp only [List.length_cons]; omega), Array.getElem?_setIfInBounds, if_neg a]
theorem onl_setCells {g : Nat} {x : World} : ∀ (vs : List Value) (o : Nat) {w : World}, Onl g x w → Onl g x (w.setCells g o vs)
  | [], _, _, h => h
  | v :: vs, o, w, h => onl_setCells vs (o + 1) (w := w.setCell ⟨g, o, none⟩ v) ⟨h.below.setCell (by exact Nat.le_refl _) v, fun k hk hn => (Below.heap_setCell _ _ _ _ (by exact hn)).trans (h.rest k hk hn)⟩
/-- What a guard's list holds once place t has been taken out and the last place cleared. -/
def cut (G : Nat → Gu) (t N : Nat) (w : World) (g : Nat) : World := (w.setCells g (t * 2) (flat (fun i => grow2 (G (t + 1 + i))) (N - t))).setCells g (N * 2) [.int .i64 0, .int .i64 0]
theorem seg_cut {w : World} {g N t : Nat} {G : Nat → Gu} (h : SegV w g 77 (N + 1) 2 (fun i j => gcell (G i) j)) (ht : t < N + 1) : SegV (cut G t N w g) g 77 N 2 (fun i j => gcell (G (skp t i)) j) := by
  obtain ⟨c, hb, hc⟩ := h
  have hsz : N * 2 + 1 < c.size := (Array.getElem?_eq_some_iff.1 (hc N (by omega) 1 (by omega))).1
  have hlen : (flat (fun i => grow2 (G (t + 1 + i))) (N - t)).length = (N - t) * 2 := flat_len (m := 2) (fun _ => rfl) _
  obtain ⟨c1, e1, e2, e3⟩ := blk_setCells (flat (fun i => grow2 (G (t + 1 + i))) (N - t)) (t * 2) w c hb (by rw [hlen]; omega)
  obtain ⟨c2, f1, f2, f3⟩ := blk_setCells [.int .i64 0, .int .i64 0] (N * 2) _ c1 e1 (by simp only [List.length_cons, List.length_nil]; omega)
  refine ⟨c2, f1, fun i hi j hj => ?_⟩
  rw [f3, if_neg (by omega), e3, hlen]
  by_cases a : i < t
  · rw [if_neg (by omega), hc i (by omega) j hj]
    show some (gcell (G i) j) = some (gcell (G (skp t i)) j)
    unfold skp
    rw [if_pos a]
  · obtain ⟨k, rfl⟩ : ∃ k, i = t + k := ⟨i - t, by omega⟩
    rw [if_pos (by omega), show (t + k) * 2 + j - t * 2 = k * 2 + j by omega, flat_at (m := 2) (fun _ => rfl) (by omega) hj, grow2_at _ j hj]
    show some (gcell (G (t + 1 + k)) j) = some (gcell (G (skp t (t + k))) j)
    unfold skp
    rw [if_neg a, show t + 1 + k = t + k + 1 by omega]
theorem onl_cut {w x : World} {g N t : Nat} {G : Nat → Gu} (h : Onl g x w) : Onl g x (cut G t N w g) := onl_setCells _ _ (onl_setCells _ _ h)
theorem zero77 (w : World) : (zeroValue 77).run Try.prog w = .ok (.agg #[.int .i64 0, .int .i64 0]) w := by kernel_rfl
end Go.Proofs.Ytinfbbbgfkaioaa
