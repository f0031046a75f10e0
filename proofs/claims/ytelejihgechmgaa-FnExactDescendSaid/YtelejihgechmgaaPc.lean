/- Copies of a point: append onto nothing, slices.Clone, a step. -/
import Derived.Test.YtelejihgechmgaaPa
import Derived.Maps.AppendAt
namespace Go.Proofs.Ytelejihgechmgaa
open Go.RowKit
set_option linter.unusedVariables false
set_option linter.unusedSimpArgs false
def fints (f : Nat → Int) (d : Nat) : List Int := (List.range d).map f
theorem fints_len (f : Nat → Int) (d : Nat) : (fints f d).length = d := by simp [fints]
theorem fints_at (f : Nat → Int) {d i : Nat} (h : i < d) : (fints f d).getD i 0 = f i := by simp [fints, List.getD, h]
theorem Ol.seg {w : World} {lo d : Nat} {v : Value} {f : Nat → Int} (h : Ol w lo v (fints f d)) (hd : 0 < d) : ∃ g cap, v = .slice (some ⟨g, 0, none⟩) d cap ∧ lo ≤ g ∧ g < w.heap.size ∧ Seg w g 2 0 d (fun j => .int .i64 (f j)) := by
  rcases OwnI.of h (Nat.le_refl _) with ⟨e, _⟩ | ⟨_, ⟨e, _⟩ | ⟨g, cap, e, h1, h2, h3⟩⟩
  · exact absurd rfl e
  · have := fints_len f d
    rw [e] at this
    simp at this
    omega
  · rw [fints_len] at e h3
    exact ⟨g, cap, e, h1, h2, h3.congr fun i hi => by rw [fints_at f hi]⟩
theorem RdRow.at' {w : World} {ao : Option Addr} {n cap : Nat} {f : Nat → Int} (h : RdRow w (.slice ao n cap) n f) (hn : 0 < n) : ∃ b off, ao = some ⟨b, off, none⟩ ∧ ∀ i, i < n → w.cell? ⟨b, off + i, none⟩ = some (.int .i64 (f i)) := by
  rcases h with ⟨ao', cap', _, e⟩ | ⟨b, off, cap', e, hc⟩
  · omega
  · simp only [Value.slice.injEq] at e
    exact ⟨b, off, e.1, hc⟩
/-- 'append([]int64{}, row...)'. -/
theorem pushC {ops : Array Oper} {rest : List Oper} {o : Oper} {a : Act} {Q : Exit → Act → World → Prop} (hgd : o.guard = none) (s x : Operand)
    (ho : o.op = .call { callee := .builtin .append, args := #[s, x], argTypes := #[24, 24] }) (w : World) (hs : a.eval s = .slice (some ⟨w.heap.size, 0, none⟩) 0 0) (xo : Option Addr) (d c : Nat) (f : Nat → Int) (hx : a.eval x = .slice xo d c) (hr : RdRow w (.slice xo d c) d f) (hd : 0 < d) (hn : d ≤ 1048576)
    (h : ∀ g cap w', w.heap.size ≤ g → g < w'.heap.size → Seg w' g 2 0 d (fun j => .int .i64 (f j)) → Below w.heap.size w w' → wpList Try.prog ops Q rest (a.put o.dst (.slice (some ⟨g, 0, none⟩) d cap)) w') :
    wpList Try.prog ops Q (o :: rest) a (w.alloc (.cells #[] 2)) := by
  obtain ⟨i, h1, h2, h3, h4⟩ := info_parts info2
  obtain ⟨b, off, hxo, hc⟩ := hr.at' hd
  have hO : (w.alloc (.cells #[] 2)).ownsRow w.heap.size 2 1 (.slice (some ⟨w.heap.size, 0, none⟩) 0 0) 0 [] := ownsV_empty _ _ _
  have hB : Below w.heap.size w (w.alloc (.cells #[] 2)) := (Below.refl _ _).alloc (Nat.le_refl _) _
  refine wpList_append_own_at (w.alloc (.cells #[] 2)) hgd s x 24 ho w.heap.size 2 i (.int .i64 0) 1 8 Try.underlying24 h1 h2 h3 h4 rfl (by decide) _ 0 [] hs hO ⟨b, off, none⟩ d c (ints (fints f d)) (by rw [hx, hxo]) (by rw [ints_len, fints_len]; omega) (fun j u hj => ?_) (fun u hu => ?_) (by unfold maxLen; omega) (by omega) (by simp) ?_
  · have hjl := (List.getElem?_eq_some_iff.1 hj).1
    rw [ints_len, fints_len] at hjl
    have e0 : (⟨b, off, none⟩ : Addr).add j = ⟨b, off + j, none⟩ := by
      unfold Addr.add
      split
      · rename_i h; subst h; rfl
      · rfl
    rw [e0, kold hB (hc j hjl)]
    rw [ints_at _ _ (by rw [fints_len]; exact hjl), fints_at f hjl] at hj
    exact hj
  · unfold ints at hu
    obtain ⟨q, _, rfl⟩ := List.mem_map.1 hu
    rfl
  · intro v' w' r1 r2 _ _
    have hb : Below w.heap.size (w.alloc (.cells #[] 2)) w' := (Below.refl _ _).grown r2 (by simp) fun b hb => (hO.lt b hb).1
    have e : Ol w' w.heap.size v' (fints f d) := by
      show w'.ownsRow w.heap.size 2 1 v' (fints f d).length (ints (fints f d))
      rw [fints_len]
      simpa using r1
    obtain ⟨g, cap, rfl, g1, g2, g3⟩ := e.seg hd
    exact h g cap w' g1 g2 g3 (hB.trans hb)
set_option maxRecDepth 20000 in
set_option maxHeartbeats 1600000 in
theorem iClone_any {w : World} {xo : Option Addr} {d c : Nat} {f : Nat → Int} (hr : RdRow w (.slice xo d c) d f) (hd : 0 < d) (hn : d ≤ 1048576) :
    Calls Try.prog 75 #[.slice xo d c] w fun e w' => ∃ g cap, e = .returned (.slice (some ⟨g, 0, none⟩) d cap) ∧ w.heap.size ≤ g ∧ g < w'.heap.size ∧ Seg w' g 2 0 d (fun j => .int .i64 (f j)) ∧ Below w.heap.size w w' := by
  obtain ⟨b, off, rfl, -⟩ := hr.at' hd
  have HR : Hid (RdRow w (.slice (some ⟨b, off, none⟩) d c) d f) := hr
  clear hr
  have q24 : ∀ (w : World), (binOp .eql 24 (.slice (some ⟨b, off, none⟩) d c) (.slice none 0 0)).run Try.prog w = .ok (.bool false) w := fun w => run_eql_nil_slice w 24 2 (some ⟨b, off, none⟩) d c 0 0 Try.underlying24
  go_enter Try.func75, Try.ntmps75
  go_wp2_with (first | (at_builtin; refine pushC rfl (.tmp 5) (.tmp 6) rfl w (by simp [Act.eval]) (some ⟨b, off, none⟩) d c f (by simp [Act.eval]) HR.out hd hn ?_; intro g cap w' h1 h2 h3 h4; have HQ : Hid (w.heap.size ≤ g ∧ g < w'.heap.size ∧ Seg w' g 2 0 d (fun j => .int .i64 (f j)) ∧ Below w.heap.size w w') := ⟨h1, h2, h3, h4⟩; clear h1 h2 h3 h4))
  go_ret
  exact ⟨g, cap, rfl, HQ.out⟩
set_option maxRecDepth 20000 in
set_option maxHeartbeats 1600000 in
theorem sStep_any {w : World} {xo : Option Addr} {d c k : Nat} {x : Mt.Pnt} {y : Int} (hr : RdRow w (.slice xo d c) d x) (hd : k < d) (hn : d ≤ 1048576) (hx : -12000 ≤ x k ∧ x k ≤ 12000) (hy : -1000 ≤ y ∧ y ≤ 1000) :
    Calls Try.prog 73 #[.slice xo d c, .int .i64 (k : Int), .int .i64 y] w fun e w' => ∃ g cap, e = .returned (.slice (some ⟨g, 0, none⟩) d cap) ∧ w.heap.size ≤ g ∧ g < w'.heap.size ∧ Seg w' g 2 0 d (fun j => .int .i64 (Mt.nb x k y j)) ∧ Below w.heap.size w w' := by
  have HR : Hid (RdRow w (.slice xo d c) d x) := hr
  obtain ⟨z, hz⟩ : ∃ z, z = x k + y := ⟨_, rfl⟩
  have hzw : ∀ u, u = x k → wrap64 (u + y) = z := fun u e => by rw [e, hz]; unfold wrap64; omega
  have HZ : Hid (z = x k + y) := hz
  obtain ⟨u, hu⟩ : ∃ u, u = x k := ⟨_, rfl⟩
  have hwu := hzw u hu
  have HU : Hid (u = x k) := hu
  have hd0 : 0 < d := by omega
  have hkI : (k : Int) < d := by omega
  have hdI : (d : Int) ≤ 1048576 := by omega
  clear hr hz hzw hu hx hy
  go_enter Try.func73, Try.ntmps73
  go_upto_region 2 with (first | (at_builtin; refine pushC rfl (.tmp 8) (.tmp 9) rfl w (by simp [Act.eval]) xo d c x (by simp [Act.eval]) HR.out hd0 hn ?_; intro g cap w' h1 h2 h3 h4))
  have c0 : w'.cell? ⟨g, k, none⟩ = some (.int .i64 u) := by rw [HU.out]; simpa using h3.cell hd
  have cf := h3.frozen k
  have HQ : Hid (w.heap.size ≤ g ∧ g < (w'.setCell ⟨g, k, none⟩ (.int .i64 z)).heap.size ∧ Seg (w'.setCell ⟨g, k, none⟩ (.int .i64 z)) g 2 0 d (fun j => .int .i64 (Mt.nb x k y j)) ∧ Below w.heap.size w (w'.setCell ⟨g, k, none⟩ (.int .i64 z))) := by
    refine ⟨h1, by simpa using h2, ?_, h4.setCell h1 _⟩
    have h5 := h3.set k hd (.int .i64 z)
    rw [Nat.zero_add] at h5
    refine h5.congr fun i hi => ?_
    unfold Mt.nb
    by_cases e : i = k
    · subst e; rw [if_pos rfl, if_pos rfl, HZ.out]
    · rw [if_neg e, if_neg e]
  clear h1 h2 h3 h4
  go_wp2
  go_ret
  try rw [hwu]
  exact ⟨g, cap, rfl, HQ.out⟩
end Go.Proofs.Ytelejihgechmgaa
