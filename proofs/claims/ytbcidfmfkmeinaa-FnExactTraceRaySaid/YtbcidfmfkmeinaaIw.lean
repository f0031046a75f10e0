/- A frame whose slots are filled in any order; an operation of a region by its run. -/
import Derived.Test.YtbcidfmfkmeinaaIv
namespace Go.Proofs.Ytbcidfmfkmeinaa
open Go.RowKit
/-- What an operation lays into the frame: its number, its slot, its value. -/
structure Lay where
  i : Nat
  d : Nat
  v : Value
def fillA (a0 : Act) (listed : Array Bool) : List Lay → Act
  | [] => a0
  | x :: l => if listed.getD x.i false then (fillA a0 listed l).put (some x.d) x.v else fillA a0 listed l
theorem put_comm (a : Act) {d e : Nat} (h : d ≠ e) (u v : Value) : (a.put (some d) u).put (some e) v = (a.put (some e) v).put (some d) u := by
  simp only [Act.put]
  rw [Array.setIfInBounds_comm _ _ h]
theorem fill_put {a0 : Act} {listed : Array Bool} {i d : Nat} {v : Value} (hi : i < listed.size) (hun : listed.getD i false = false) : ∀ {l : List Lay}, l.Pairwise (fun x y => x.d ≠ y.d ∧ x.i ≠ y.i) → (⟨i, d, v⟩ : Lay) ∈ l →
    (fillA a0 listed l).put (some d) v = fillA a0 (listed.setIfInBounds i true) l
  | [], _, hm => by cases hm
  | x :: l, hp, hm => by
    obtain ⟨h1, h2⟩ := List.pairwise_cons.1 hp
    rcases List.mem_cons.1 hm with rfl | hm
    · have hrest : fillA a0 (listed.setIfInBounds i true) l = fillA a0 listed l := by
        clear hp h2 hm
        induction l with
        | nil => rfl
        | cons y l ih =>
          have hne : i ≠ y.i := (h1 y (List.mem_cons_self ..)).2
          simp only [fillA]
          rw [getD_set_ne false hne, ih (fun z hz => h1 z (List.mem_cons_of_mem _ hz))]
      simp only [fillA]
      rw [hun, hrest, show (listed.setIfInBounds i true).getD i false = true by simp [hi]]
      simp
    · have hx := h1 _ hm
      have ih := fill_put (a0 := a0) hi hun h2 hm
      simp only [fillA]
      rw [getD_set_ne false (Ne.symm hx.2), ← ih]
      by_cases c : listed.getD x.i false = true
      · rw [if_pos c, if_pos c, put_comm _ (Ne.symm hx.1).symm]
      · rw [if_neg c, if_neg c]
theorem fill_size {a0 : Act} {listed : Array Bool} : ∀ {l : List Lay}, (fillA a0 listed l).tmps.size = a0.tmps.size
  | [] => rfl
  | x :: l => by
    have ih := fill_size (a0 := a0) (listed := listed) (l := l)
    simp only [fillA]
    split
    · simp [Act.put, ih]
    · exact ih
theorem fill_eval {a0 : Act} {listed : Array Bool} {x : Lay} : ∀ {l : List Lay}, l.Pairwise (fun x y => x.d ≠ y.d ∧ x.i ≠ y.i) → x ∈ l → listed.getD x.i false = true → x.d < a0.tmps.size → (fillA a0 listed l).eval (.tmp x.d) = x.v
  | [], _, hm, _, _ => by cases hm
  | y :: l, hp, hm, hl, hd => by
    obtain ⟨h1, h2⟩ := List.pairwise_cons.1 hp
    simp only [fillA]
    rcases List.mem_cons.1 hm with rfl | hm
    · rw [if_pos hl]
      have := fill_size (a0 := a0) (listed := listed) (l := l)
      simp [Act.put, Act.eval, this, hd]
    · have hx := h1 _ hm
      have ih := fill_eval h2 hm hl hd
      split
      · rw [← ih]
        simp only [Act.put, Act.eval]
        simp [Array.getElem?_setIfInBounds_ne hx.1]
      · exact ih
theorem fill_other {a0 : Act} {listed : Array Bool} {t : Nat} : ∀ {l : List Lay}, (∀ x ∈ l, x.d ≠ t) → (fillA a0 listed l).eval (.tmp t) = a0.eval (.tmp t)
  | [], _ => rfl
  | y :: l, h => by
    have ih := fill_other (a0 := a0) (listed := listed) (l := l) (fun x hx => h x (List.mem_cons_of_mem _ hx))
    simp only [fillA]
    split
    · rw [← ih]
      simp only [Act.put, Act.eval]
      simp [Array.getElem?_setIfInBounds_ne (h y (List.mem_cons_self ..))]
    · exact ih
section
variable {P : Program} {ops : Array Oper} {Q : Exit → Act → World → Prop} {K : Act → World → Prop} {a : Act} {w : World} {i : Nat} {o : Oper}
theorem wpOp_run (ho : ops[i]? = some o) (hg : o.guard = none) {v : Value} {w' : World} (hrun : (execOp a.eval o).run P w = .ok (.value v) w') (h : K (a.put o.dst v) w') : wpOp P ops Q i K a w := by
  unfold wpOp
  rw [ho]
  simp only [Region.wanted, hg, if_true]
  left
  unfold Oper.wp
  rw [hrun, Oper.upon_value]
  exact h
theorem wpOp_call (ho : ops[i]? = some o) (hg : o.guard = none) {f : FuncId} {args : Array Value} {w' : World} (hrun : (execOp a.eval o).run P w = .ok (.enter f args) w') (h : Calls P f args w' fun e w'' => ∃ v, e = .returned v ∧ K (a.put o.dst v) w'') : wpOp P ops Q i K a w := by
  unfold wpOp
  rw [ho]
  simp only [Region.wanted, hg, if_true]
  left
  unfold Oper.wp
  rw [hrun, Oper.upon_enter]
  refine h.mono fun e w'' hh => ?_
  obtain ⟨v, rfl, hk⟩ := hh
  exact hk
theorem wpOp_intro (ho : ops[i]? = some o) (hg : o.guard = none) (h : ∀ K' : Act → World → Prop, (∀ a w, K a w → K' a w) → o.wp P a w K' Q) : wpOp P ops Q i K a w := by
  unfold wpOp
  rw [ho]
  simp only [Region.wanted, hg, if_true]
  left
  exact h K (fun _ _ h => h)
end
end Go.Proofs.Ytbcidfmfkmeinaa
