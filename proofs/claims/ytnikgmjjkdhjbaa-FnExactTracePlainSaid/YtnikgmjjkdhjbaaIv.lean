/- Regions that draw their order, by an invariant: one obligation an operation, whatever the order; frames that are filled in any order. -/
import Derived.Test.YtnikgmjjkdhjbaaVr
import Derived.OrdersHeld
import Derived.Laws.Tables
namespace Go.Proofs.Ytnikgmjjkdhjbaa
open Go.RowKit
set_option linter.unusedVariables false
section
variable {P : Program} {ops : Array Oper} {Q : Exit → Act → World → Prop}
theorem getD_in9 {listed : Array Bool} {i : Nat} (hi : i < listed.size) (h : listed.getD i false = false) : listed.getD i true = false := by
  simp [hi] at h ⊢; exact h
theorem all_of_ready {listed : Array Bool} (hs : listed.size = ops.size) (hb : ∀ (i : Nat) (o : Oper), ops[i]? = some o → ∀ e ∈ o.after, e.on < i) (h : Region.ready .any ops listed = []) : ∀ i, i < ops.size → listed.getD i false = true := by
  intro i
  induction i using Nat.strongRecOn with
  | _ i ih =>
    intro hi
    cases hl : listed.getD i false with
    | true => rfl
    | false =>
      exfalso
      have hm : i ∈ Region.ready .any ops listed := by
        refine mem_ready.2 ⟨getD_in9 (by omega) hl, ops[i], by simp [hi], fun e he _ => ?_⟩
        have h1 := hb i ops[i] (by simp [hi]) e he
        exact ih e.on h1 (by omega)
      rw [h] at hm
      cases hm
theorem count_set {listed : Array Bool} {i : Nat} (hi : i < listed.size) (h : listed.getD i true = false) : (listed.setIfInBounds i true).toList.count false + 1 = listed.toList.count false := by
  have h1 : listed[i] = false := by simpa [hi] using h
  have h2 : listed.toList[i]'(by simpa using hi) = false := by simpa using h1
  have h3 : 0 < listed.toList.count false := List.count_pos_iff.2 (List.mem_of_getElem h2)
  rw [Array.toList_setIfInBounds, List.count_set (by simpa using hi), h2]
  rw [if_pos (by rfl), if_neg (by decide)]
  omega
theorem wpAny_inv {Inv : Array Bool → Act → World → Prop} (hb : ∀ (i : Nat) (o : Oper), ops[i]? = some o → ∀ e ∈ o.after, e.on < i)
    (hstep : ∀ listed a w i, listed.size = ops.size → Inv listed a w → i ∈ Region.ready .any ops listed → wpOp P ops Q i (Inv (listed.setIfInBounds i true)) a w)
    (hend : ∀ listed a w, Inv listed a w → (∀ i, i < ops.size → listed.getD i false = true) → Q .normal a w) :
    ∀ fuel listed a w, listed.size = ops.size → Inv listed a w → listed.toList.count false ≤ fuel → wpAny P .any ops Q fuel listed a w
  | 0, listed, a, w, hs, hI, hf => by
    have hr : Region.ready .any ops listed = [] := by
      rw [List.eq_nil_iff_forall_not_mem]
      intro i hi
      obtain ⟨h1, oi, hoi, _⟩ := mem_ready.1 hi
      have hlt : i < listed.size := by rw [hs]; exact (Array.getElem?_eq_some_iff.1 hoi).1
      have := count_set hlt h1
      omega
    exact ⟨hr, hend listed a w hI (all_of_ready hs hb hr)⟩
  | fuel + 1, listed, a, w, hs, hI, hf => by
    refine ⟨fun hr => hend listed a w hI (all_of_ready hs hb hr), fun i hi => ?_⟩
    obtain ⟨h1, oi, hoi, _⟩ := mem_ready.1 hi
    have hlt : i < listed.size := by rw [hs]; exact (Array.getElem?_eq_some_iff.1 hoi).1
    have hc := count_set hlt h1
    exact wpOp_mono (fun a' w' h => wpAny_inv hb hstep hend fuel _ a' w' (by simp [hs]) h (by omega)) (hstep listed a w i hs hI hi)
theorem wp_region_inv {id : Nat} {a : Act} {w : World} (hm : P.follows .mixedOrders = true) (Inv : Array Bool → Act → World → Prop) (hb : ∀ (i : Nat) (o : Oper), ops[i]? = some o → ∀ e ∈ o.after, e.on < i)
    (hstart : Inv (Array.replicate ops.size false) a w.drew)
    (hstep : ∀ listed a w i, listed.size = ops.size → Inv listed a w → i ∈ Region.ready .any ops listed → wpOp P ops Q i (Inv (listed.setIfInBounds i true)) a w)
    (hend : ∀ listed a w, Inv listed a w → (∀ i, i < ops.size → listed.getD i false = true) → Q .normal a w) : (Code.region id ops true).wp P Q a w :=
  wp_region_any hm (wpAny_inv hb hstep hend ops.size _ a _ (by simp) hstart (by simp))
end
/-- What an operation lays into the frame: its number, its slot, its value. -/
structure Lay where
  i : Nat
  d : Nat
  v : Value
def fillA (a0 : Act) (listed : Array Bool) : List Lay → Act
  | [] => a0
  | x :: l => if listed.getD x.i false then (fillA a0 listed l).put (some x.d) x.v else fillA a0 listed l
theorem put_comm (a : Act) {d e : Nat} (h : d ≠ e) (u v : Value) : (a.put (some d) u).put (some e) v = (a.put (some e) v).put (some d) u := by
  simp only [Act.put]
  rw [Array.setIfInBounds_comm _ _ h]
theorem fill_put {a0 : Act} {listed : Array Bool} {i d : Nat} {v : Value} (hi : i < listed.size) (hun : listed.getD i false = false) : ∀ {l : List Lay}, l.Pairwise (fun x y => x.d ≠ y.d ∧ x.i ≠ y.i) → (⟨i, d, v⟩ : Lay) ∈ l →
    (fillA a0 listed l).put (some d) v = fillA a0 (listed.setIfInBounds i true) l
  | [], _, hm => by cases hm
  | x :: l, hp, hm => by
    obtain ⟨h1, h2⟩ := List.pairwise_cons.1 hp
    rcases List.mem_cons.1 hm with rfl | hm
    · have hrest : fillA a0 (listed.setIfInBounds i true) l = fillA a0 listed l := by
        clear hp h2 hm
        induction l with
        | nil => rfl
        | cons y l ih =>
          have hne : i ≠ y.i := (h1 y (List.mem_cons_self ..)).2
          simp only [fillA]
          rw [getD_set_ne false hne, ih (fun z hz => h1 z (List.mem_cons_of_mem _ hz))]
      simp only [fillA]
      rw [hun, hrest, show (listed.setIfInBounds i true).getD i false = true by simp [hi]]
      simp
    · have hx := h1 _ hm
      have ih := fill_put (a0 := a0) hi hun h2 hm
      simp only [fillA]
      rw [getD_set_ne false (Ne.symm hx.2), ← ih]
      by_cases c : listed.getD x.i false = true
      · rw [if_pos c, if_pos c, put_comm _ (Ne.symm hx.1).symm]
      · rw [if_neg c, if_neg c]
theorem fill_size {a0 : Act} {listed : Array Bool} : ∀ {l : List Lay}, (fillA a0 listed l).tmps.size = a0.tmps.size
  | [] => rfl
  | x :: l => by
    have ih := fill_size (a0 := a0) (listed := listed) (l := l)
    simp only [fillA]
    split
    · simp [Act.put, ih]
    · exact ih
theorem fill_eval {a0 : Act} {listed : Array Bool} {x : Lay} : ∀ {l : List Lay}, l.Pairwise (fun x y => x.d ≠ y.d ∧ x.i ≠ y.i) → x ∈ l → listed.getD x.i false = true → x.d < a0.tmps.size → (fillA a0 listed l).eval (.tmp x.d) = x.v
  | [], _, hm, _, _ => by cases hm
  | y :: l, hp, hm, hl, hd => by
    obtain ⟨h1, h2⟩ := List.pairwise_cons.1 hp
    simp only [fillA]
    rcases List.mem_cons.1 hm with rfl | hm
    · rw [if_pos hl]
      have := fill_size (a0 := a0) (listed := listed) (l := l)
      simp [Act.put, Act.eval, this, hd]
    · have hx := h1 _ hm
      have ih := fill_eval h2 hm hl hd
      split
      · rw [← ih]
        simp only [Act.put, Act.eval]
        simp [Array.getElem?_setIfInBounds_ne hx.1]
      · exact ih
theorem fill_other {a0 : Act} {listed : Array Bool} {t : Nat} : ∀ {l : List Lay}, (∀ x ∈ l, x.d ≠ t) → (fillA a0 listed l).eval (.tmp t) = a0.eval (.tmp t)
  | [], _ => rfl
  | y :: l, h => by
    have ih := fill_other (a0 := a0) (listed := listed) (l := l) (fun x hx => h x (List.mem_cons_of_mem _ hx))
    simp only [fillA]
    split
    · rw [← ih]
      simp only [Act.put, Act.eval]
      simp [Array.getElem?_setIfInBounds_ne (h y (List.mem_cons_self ..))]
    · exact ih
section
variable {P : Program} {ops : Array Oper} {Q : Exit → Act → World → Prop} {K : Act → World → Prop} {a : Act} {w : World} {i : Nat} {o : Oper}
theorem wpOp_run (ho : ops[i]? = some o) (hg : o.guard = none) {v : Value} {w' : World} (hrun : (execOp a.eval o).run P w = .ok (.value v) w') (h : K (a.put o.dst v) w') : wpOp P ops Q i K a w := by
  unfold wpOp
  rw [ho]
  simp only [Region.wanted, hg, if_true]
  left
  unfold Oper.wp
  rw [hrun, Oper.upon_value]
  exact h
theorem wpOp_call (ho : ops[i]? = some o) (hg : o.guard = none) {f : FuncId} {args : Array Value} {w' : World} (hrun : (execOp a.eval o).run P w = .ok (.enter f args) w') (h : Calls P f args w' fun e w'' => ∃ v, e = .returned v ∧ K (a.put o.dst v) w'') : wpOp P ops Q i K a w := by
  unfold wpOp
  rw [ho]
  simp only [Region.wanted, hg, if_true]
  left
  unfold Oper.wp
  rw [hrun, Oper.upon_enter]
  refine h.mono fun e w'' hh => ?_
  obtain ⟨v, rfl, hk⟩ := hh
  exact hk
theorem wpOp_intro (ho : ops[i]? = some o) (hg : o.guard = none) (h : ∀ K' : Act → World → Prop, (∀ a w, K a w → K' a w) → o.wp P a w K' Q) : wpOp P ops Q i K a w := by
  unfold wpOp
  rw [ho]
  simp only [Region.wanted, hg, if_true]
  left
  exact h K (fun _ _ h => h)
end
theorem letA {f : Act → World → Prop} {a : Act} {w : World} (h : ∀ a0, a0 = a → f a0 w) : f a w := h a rfl
def SameL (listed : Array Bool) : List Lay → List Lay → Prop
  | [], [] => True
  | x :: l, y :: m => (x.i = y.i ∧ x.d = y.d ∧ (listed.getD x.i false = true → x.v = y.v)) ∧ SameL listed l m
  | _, _ => False
theorem fill_same {a0 : Act} {listed : Array Bool} : ∀ {l m : List Lay}, SameL listed l m → fillA a0 listed l = fillA a0 listed m
  | [], [], _ => rfl
  | [], _ :: _, h => by cases h
  | _ :: _, [], h => by cases h
  | x :: l, y :: m, h => by
    obtain ⟨⟨e1, e2, e3⟩, h2⟩ := h
    have ih := fill_same (a0 := a0) h2
    simp only [fillA]
    rw [← e1, ← e2, ih]
    by_cases c : listed.getD x.i false = true
    · rw [if_pos c, if_pos c, e3 c]
    · rw [if_neg c, if_neg c]
def aheadB (ops : Array Oper) : Bool := (List.range ops.size).all fun i => match ops[i]? with | some o => o.after.all (fun e => decide (e.on < i)) | none => true
theorem ahead_of {ops : Array Oper} (h : aheadB ops = true) : ∀ (i : Nat) (o : Oper), ops[i]? = some o → ∀ e ∈ o.after, e.on < i := by
  intro i o ho e he
  have hlt := (Array.getElem?_eq_some_iff.1 ho).1
  have h1 := List.all_eq_true.1 h i (List.mem_range.2 hlt)
  rw [ho] at h1
  simp only [] at h1
  have h2 := Array.all_eq_true'.1 h1 e he
  exact of_decide_eq_true h2
theorem getD_none (n i : Nat) : (Array.replicate n false).getD i false = false := by
  rcases Nat.lt_or_ge i n with h | h
  · simp [h]
  · simp [h]
theorem fill_none {a0 : Act} {n : Nat} : ∀ {l : List Lay}, fillA a0 (Array.replicate n false) l = a0
  | [] => rfl
  | x :: l => by
    simp only [fillA]
    rw [getD_none]
    simpa using fill_none (a0 := a0) (n := n) (l := l)
theorem fill_evalT {a0 : Act} {listed : Array Bool} {i d : Nat} {v : Value} {l : List Lay} (hp : l.Pairwise (fun x y => x.d ≠ y.d ∧ x.i ≠ y.i)) (hm : (⟨i, d, v⟩ : Lay) ∈ l) (hl : listed.getD i false = true) (hd : d < a0.tmps.size) : (fillA a0 listed l).tmps[d]?.getD undef = v := by
  have := fill_eval hp hm hl hd
  simpa [Act.eval] using this
theorem fill_otherT {a0 : Act} {listed : Array Bool} {t : Nat} {v : Value} {l : List Lay} (h : ∀ x ∈ l, x.d ≠ t) (e : a0.tmps[t]?.getD undef = v) : (fillA a0 listed l).tmps[t]?.getD undef = v := by
  have := fill_other (a0 := a0) (listed := listed) h
  rw [← e]
  simpa [Act.eval] using this
theorem set_self {listed : Array Bool} {i : Nat} (h : i < listed.size) : (listed.setIfInBounds i true).getD i false = true := by simp [h]
theorem un_of {listed : Array Bool} {i : Nat} (h : i < listed.size) (k : listed.getD i true = false) : listed.getD i false = false := by
  simp [h] at k ⊢; exact k
end Go.Proofs.Ytnikgmjjkdhjbaa
