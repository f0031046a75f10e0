/- A region that draws its order and makes memory, none of its operations a store: one obligation an operation, told by a predicate of its value that stays when memory is added. -/
import Derived.Test.YtclnmikneomccaaVr
import Derived.Test.YtclnmikneomccaaRw
import Derived.OrdersHeld
import Derived.Laws.Tables
namespace Go.Proofs.Ytclnmikneomccaa
open Go.RowKit
section
variable {P : Program} {ops : Array Oper} {Q : Exit → Act → World → Prop}
theorem getD_in9 {listed : Array Bool} {i : Nat} (hi : i < listed.size) (h : listed.getD i false = false) : listed.getD i true = false := by
  simp [hi] at h ⊢; exact h
theorem all_of_ready {listed : Array Bool} (hs : listed.size = ops.size) (hb : ∀ (i : Nat) (o : Oper), ops[i]? = some o → ∀ e ∈ o.after, e.on < i) (h : Region.ready .any ops listed = []) : ∀ i, i < ops.size → listed.getD i false = true := by
  intro i
  induction i using Nat.strongRecOn with
  | _ i ih =>
    intro hi
    cases hl : listed.getD i false with
    | true => rfl
    | false =>
      exfalso
      have hm : i ∈ Region.ready .any ops listed := by
        refine mem_ready.2 ⟨getD_in9 (by omega) hl, ops[i], by simp [hi], fun e he _ => ?_⟩
        have h1 := hb i ops[i] (by simp [hi]) e he
        exact ih e.on h1 (by omega)
      rw [h] at hm
      cases hm
theorem count_set {listed : Array Bool} {i : Nat} (hi : i < listed.size) (h : listed.getD i true = false) : (listed.setIfInBounds i true).toList.count false + 1 = listed.toList.count false := by
  have h1 : listed[i] = false := by simpa [hi] using h
  have h2 : listed.toList[i]'(by simpa using hi) = false := by simpa using h1
  have h3 : 0 < listed.toList.count false := List.count_pos_iff.2 (List.mem_of_getElem h2)
  rw [Array.toList_setIfInBounds, List.count_set (by simpa using hi), h2]
  rw [if_pos (by rfl), if_neg (by decide)]
  omega
theorem wpAny_inv {Inv : Array Bool → Act → World → Prop} (hb : ∀ (i : Nat) (o : Oper), ops[i]? = some o → ∀ e ∈ o.after, e.on < i)
    (hstep : ∀ listed a w i, listed.size = ops.size → Inv listed a w → i ∈ Region.ready .any ops listed → wpOp P ops Q i (Inv (listed.setIfInBounds i true)) a w)
    (hend : ∀ listed a w, Inv listed a w → (∀ i, i < ops.size → listed.getD i false = true) → Q .normal a w) :
    ∀ fuel listed a w, listed.size = ops.size → Inv listed a w → listed.toList.count false ≤ fuel → wpAny P .any ops Q fuel listed a w
  | 0, listed, a, w, hs, hI, hf => by
    have hr : Region.ready .any ops listed = [] := by
      rw [List.eq_nil_iff_forall_not_mem]
      intro i hi
      obtain ⟨h1, oi, hoi, _⟩ := mem_ready.1 hi
      have hlt : i < listed.size := by rw [hs]; exact (Array.getElem?_eq_some_iff.1 hoi).1
      have := count_set hlt h1
      omega
    exact ⟨hr, hend listed a w hI (all_of_ready hs hb hr)⟩
  | fuel + 1, listed, a, w, hs, hI, hf => by
    refine ⟨fun hr => hend listed a w hI (all_of_ready hs hb hr), fun i hi => ?_⟩
    obtain ⟨h1, oi, hoi, _⟩ := mem_ready.1 hi
    have hlt : i < listed.size := by rw [hs]; exact (Array.getElem?_eq_some_iff.1 hoi).1
    have hc := count_set hlt h1
    exact wpOp_mono (fun a' w' h => wpAny_inv hb hstep hend fuel _ a' w' (by simp [hs]) h (by omega)) (hstep listed a w i hs hI hi)
theorem wp_region_inv {id : Nat} {a : Act} {w : World} (hm : P.follows .mixedOrders = true) (Inv : Array Bool → Act → World → Prop) (hb : ∀ (i : Nat) (o : Oper), ops[i]? = some o → ∀ e ∈ o.after, e.on < i)
    (hstart : Inv (Array.replicate ops.size false) a w.drew)
    (hstep : ∀ listed a w i, listed.size = ops.size → Inv listed a w → i ∈ Region.ready .any ops listed → wpOp P ops Q i (Inv (listed.setIfInBounds i true)) a w)
    (hend : ∀ listed a w, Inv listed a w → (∀ i, i < ops.size → listed.getD i false = true) → Q .normal a w) : (Code.region id ops true).wp P Q a w :=
  wp_region_any hm (wpAny_inv hb hstep hend ops.size _ a _ (by simp) hstart (by simp))
end
/-- What an operation lays into the frame: its number, its slot, its value. -/
structure Lay where
  i : Nat
  d : Nat
  v : Value
def fillA (a0 : Act) (listed : Array Bool) : List Lay → Act
  | [] => a0
  | x :: l => if listed.getD x.i false then (fillA a0 listed l).put (some x.d) x.v else fillA a0 listed l
theorem put_comm (a : Act) {d e : Nat} (h : d ≠ e) (u v : Value) : (a.put (some d) u).put (some e) v = (a.put (some e) v).put (some d) u := by
  simp only [Act.put]
  rw [Array.setIfInBounds_comm _ _ h]
theorem fill_put {a0 : Act} {listed : Array Bool} {i d : Nat} {v : Value} (hi : i < listed.size) (hun : listed.getD i false = false) : ∀ {l : List Lay}, l.Pairwise (fun x y => x.d ≠ y.d ∧ x.i ≠ y.i) → (⟨i, d, v⟩ : Lay) ∈ l →
    (fillA a0 listed l).put (some d) v = fillA a0 (listed.setIfInBounds i true) l
  | [], _, hm => by cases hm
  | x :: l, hp, hm => by
    obtain ⟨h1, h2⟩ := List.pairwise_cons.1 hp
    rcases List.mem_cons.1 hm with rfl | hm
    · have hrest : fillA a0 (listed.setIfInBounds i true) l = fillA a0 listed l := by
        clear hp h2 hm
        induction l with
        | nil => rfl
        | cons y l ih =>
          have hne : i ≠ y.i := (h1 y (List.mem_cons_self ..)).2
          simp only [fillA]
          rw [getD_set_ne false hne, ih (fun z hz => h1 z (List.mem_cons_of_mem _ hz))]
      simp only [fillA]
      rw [hun, hrest, show (listed.setIfInBounds i true).getD i false = true by simp [hi]]
      simp
    · have hx := h1 _ hm
      have ih := fill_put (a0 := a0) hi hun h2 hm
      simp only [fillA]
      rw [getD_set_ne false (Ne.symm hx.2), ← ih]
      by_cases c : listed.getD x.i false = true
      · rw [if_pos c, if_pos c, put_comm _ (Ne.symm hx.1).symm]
      · rw [if_neg c, if_neg c]
theorem fill_size {a0 : Act} {listed : Array Bool} : ∀ {l : List Lay}, (fillA a0 listed l).tmps.size = a0.tmps.size
  | [] => rfl
  | x :: l => by
    have ih := fill_size (a0 := a0) (listed := listed) (l := l)
    simp only [fillA]
    split
    · simp [Act.put, ih]
    · exact ih
theorem fill_eval {a0 : Act} {listed : Array Bool} {x : Lay} : ∀ {l : List Lay}, l.Pairwise (fun x y => x.d ≠ y.d ∧ x.i ≠ y.i) → x ∈ l → listed.getD x.i false = true → x.d < a0.tmps.size → (fillA a0 listed l).eval (.tmp x.d) = x.v
  | [], _, hm, _, _ => by cases hm
  | y :: l, hp, hm, hl, hd => by
    obtain ⟨h1, h2⟩ := List.pairwise_cons.1 hp
    simp only [fillA]
    rcases List.mem_cons.1 hm with rfl | hm
    · rw [if_pos hl]
      have := fill_size (a0 := a0) (listed := listed) (l := l)
      simp [Act.put, Act.eval, this, hd]
    · have hx := h1 _ hm
      have ih := fill_eval h2 hm hl hd
      split
      · rw [← ih]
        simp only [Act.put, Act.eval]
        simp [Array.getElem?_setIfInBounds_ne hx.1]
      · exact ih
theorem fill_other {a0 : Act} {listed : Array Bool} {t : Nat} : ∀ {l : List Lay}, (∀ x ∈ l, x.d ≠ t) → (fillA a0 listed l).eval (.tmp t) = a0.eval (.tmp t)
  | [], _ => rfl
  | y :: l, h => by
    have ih := fill_other (a0 := a0) (listed := listed) (l := l) (fun x hx => h x (List.mem_cons_of_mem _ hx))
    simp only [fillA]
    split
    · rw [← ih]
      simp only [Act.put, Act.eval]
      simp [Array.getElem?_setIfInBounds_ne (h y (List.mem_cons_self ..))]
    · exact ih
section
variable {P : Program} {ops : Array Oper} {Q : Exit → Act → World → Prop} {K : Act → World → Prop} {a : Act} {w : World} {i : Nat} {o : Oper}
theorem wpOp_run (ho : ops[i]? = some o) (hg : o.guard = none) {v : Value} {w' : World} (hrun : (execOp a.eval o).run P w = .ok (.value v) w') (h : K (a.put o.dst v) w') : wpOp P ops Q i K a w := by
  unfold wpOp
  rw [ho]
  simp only [Region.wanted, hg, if_true]
  left
  unfold Oper.wp
  rw [hrun, Oper.upon_value]
  exact h
theorem wpOp_call (ho : ops[i]? = some o) (hg : o.guard = none) {f : FuncId} {args : Array Value} {w' : World} (hrun : (execOp a.eval o).run P w = .ok (.enter f args) w') (h : Calls P f args w' fun e w'' => ∃ v, e = .returned v ∧ K (a.put o.dst v) w'') : wpOp P ops Q i K a w := by
  unfold wpOp
  rw [ho]
  simp only [Region.wanted, hg, if_true]
  left
  unfold Oper.wp
  rw [hrun, Oper.upon_enter]
  refine h.mono fun e w'' hh => ?_
  obtain ⟨v, rfl, hk⟩ := hh
  exact hk
theorem wpOp_intro (ho : ops[i]? = some o) (hg : o.guard = none) (h : ∀ K' : Act → World → Prop, (∀ a w, K a w → K' a w) → o.wp P a w K' Q) : wpOp P ops Q i K a w := by
  unfold wpOp
  rw [ho]
  simp only [Region.wanted, hg, if_true]
  left
  exact h K (fun _ _ h => h)
end
theorem letA {f : Act → World → Prop} {a : Act} {w : World} (h : ∀ a0, a0 = a → f a0 w) : f a w := h a rfl
def SameL (listed : Array Bool) : List Lay → List Lay → Prop
  | [], [] => True
  | x :: l, y :: m => (x.i = y.i ∧ x.d = y.d ∧ (listed.getD x.i false = true → x.v = y.v)) ∧ SameL listed l m
  | _, _ => False
theorem fill_same {a0 : Act} {listed : Array Bool} : ∀ {l m : List Lay}, SameL listed l m → fillA a0 listed l = fillA a0 listed m
  | [], [], _ => rfl
  | [], _ :: _, h => by cases h
  | _ :: _, [], h => by cases h
  | x :: l, y :: m, h => by
    obtain ⟨⟨e1, e2, e3⟩, h2⟩ := h
    have ih := fill_same (a0 := a0) h2
    simp only [fillA]
    rw [← e1, ← e2, ih]
    by_cases c : listed.getD x.i false = true
    · rw [if_pos c, if_pos c, e3 c]
    · rw [if_neg c, if_neg c]
def aheadB (ops : Array Oper) : Bool := (List.range ops.size).all fun i => match ops[i]? with | some o => o.after.all (fun e => decide (e.on < i)) | none => true
theorem ahead_of {ops : Array Oper} (h : aheadB ops = true) : ∀ (i : Nat) (o : Oper), ops[i]? = some o → ∀ e ∈ o.after, e.on < i := by
  intro i o ho e he
  have hlt := (Array.getElem?_eq_some_iff.1 ho).1
  have h1 := List.all_eq_true.1 h i (List.mem_range.2 hlt)
  rw [ho] at h1
  simp only [] at h1
  have h2 := Array.all_eq_true'.1 h1 e he
  exact of_decide_eq_true h2
theorem getD_none (n i : Nat) : (Array.replicate n false).getD i false = false := by
  rcases Nat.lt_or_ge i n with h | h
  · simp [h]
  · simp [h]
theorem fill_none {a0 : Act} {n : Nat} : ∀ {l : List Lay}, fillA a0 (Array.replicate n false) l = a0
  | [] => rfl
  | x :: l => by
    simp only [fillA]
    rw [getD_none]
    simpa using fill_none (a0 := a0) (n := n) (l := l)
theorem fill_evalT {a0 : Act} {listed : Array Bool} {i d : Nat} {v : Value} {l : List Lay} (hp : l.Pairwise (fun x y => x.d ≠ y.d ∧ x.i ≠ y.i)) (hm : (⟨i, d, v⟩ : Lay) ∈ l) (hl : listed.getD i false = true) (hd : d < a0.tmps.size) : (fillA a0 listed l).tmps[d]?.getD undef = v := by
  have := fill_eval hp hm hl hd
  simpa [Act.eval] using this
theorem fill_otherT {a0 : Act} {listed : Array Bool} {t : Nat} {v : Value} {l : List Lay} (h : ∀ x ∈ l, x.d ≠ t) (e : a0.tmps[t]?.getD undef = v) : (fillA a0 listed l).tmps[t]?.getD undef = v := by
  have := fill_other (a0 := a0) (listed := listed) h
  rw [← e]
  simpa [Act.eval] using this
theorem set_self {listed : Array Bool} {i : Nat} (h : i < listed.size) : (listed.setIfInBounds i true).getD i false = true := by simp [h]
theorem un_of {listed : Array Bool} {i : Nat} (h : i < listed.size) (k : listed.getD i true = false) : listed.getD i false = false := by
  simp [h] at k ⊢; exact k

def lays : List Nat → Nat → (Nat → Value) → List Lay
  | [], _, _ => []
  | d :: D, i, vs => ⟨i, d, vs i⟩ :: lays D (i + 1) vs
theorem lays_mem {vs : Nat → Value} : ∀ {D : List Nat} {i k d : Nat}, D[k]? = some d → (⟨i + k, d, vs (i + k)⟩ : Lay) ∈ lays D i vs
  | [], i, k, d, h => by simp at h
  | e :: D, i, 0, d, h => by
    simp only [List.getElem?_cons_zero, Option.some.injEq] at h
    subst h
    exact List.mem_cons_self ..
  | e :: D, i, k + 1, d, h => by
    have := lays_mem (vs := vs) (i := i + 1) (show D[k]? = some d by simpa using h)
    rw [show i + 1 + k = i + (k + 1) by omega] at this
    exact List.mem_cons_of_mem _ this
theorem lays_d {vs : Nat → Value} : ∀ {D : List Nat} {i : Nat} {x : Lay}, x ∈ lays D i vs → x.d ∈ D ∧ i ≤ x.i
  | [], i, x, h => by cases h
  | e :: D, i, x, h => by
    rcases List.mem_cons.1 h with rfl | h
    · exact ⟨List.mem_cons_self .., Nat.le_refl _⟩
    · have := lays_d h
      exact ⟨List.mem_cons_of_mem _ this.1, by omega⟩
theorem lays_pw {vs : Nat → Value} : ∀ {D : List Nat} {i : Nat}, D.Nodup → (lays D i vs).Pairwise (fun x y => x.d ≠ y.d ∧ x.i ≠ y.i)
  | [], _, _ => List.Pairwise.nil
  | e :: D, i, h => by
    obtain ⟨h1, h2⟩ := List.nodup_cons.1 h
    refine List.pairwise_cons.2 ⟨fun y hy => ?_, lays_pw h2⟩
    have := lays_d hy
    exact ⟨fun e' => h1 (by have e2 : e = y.d := e'; rw [e2]; exact this.1), by show i ≠ y.i; omega⟩
theorem lays_same {vs us : Nat → Value} {listed : Array Bool} (h : ∀ k, listed.getD k false = true → vs k = us k) : ∀ {D : List Nat} {i : Nat}, SameL listed (lays D i vs) (lays D i us)
  | [], _ => trivial
  | _ :: _, i => ⟨⟨rfl, rfl, fun hl => h i hl⟩, lays_same h⟩
def putD (a : Act) : List Nat → Nat → (Nat → Value) → Act
  | [], _, _ => a
  | d :: D, i, vs => (putD a D (i + 1) vs).put (some d) (vs i)
theorem fill_putD {a : Act} {listed : Array Bool} {vs : Nat → Value} : ∀ {D : List Nat} {i : Nat}, (∀ k, k < i + D.length → listed.getD k false = true) → fillA a listed (lays D i vs) = putD a D i vs
  | [], _, _ => rfl
  | d :: D, i, h => by
    simp only [lays, fillA, putD]
    rw [h i (by simp), if_pos rfl, fill_putD (fun k hk => h k (by simp at hk ⊢; omega))]
def regB (L : List Oper) (D : List Nat) (n : Nat) : Bool :=
  L.length == D.length && (List.range L.length).all (fun i => (L[i]?).all (fun o => o.guard.isNone && o.dst == D[i]? && o.after.all (fun e => decide (e.on < i)))) && decide D.Nodup && D.all (fun d => decide (d < n))
structure RegOk (L : List Oper) (D : List Nat) (n : Nat) : Prop where
  len : L.length = D.length
  guard : ∀ {i : Nat} {o : Oper}, L[i]? = some o → o.guard = none
  dst : ∀ {i : Nat} {o : Oper}, L[i]? = some o → o.dst = D[i]?
  ahead : ∀ {i : Nat} {o : Oper}, L[i]? = some o → ∀ e ∈ o.after, e.on < i
  nodup : D.Nodup
  low : ∀ d ∈ D, d < n
theorem reg_ok {L : List Oper} {D : List Nat} {n : Nat} (h : regB L D n = true) : RegOk L D n := by
  simp only [regB, Bool.and_eq_true, beq_iff_eq, List.all_eq_true, List.mem_range, decide_eq_true_eq] at h
  obtain ⟨⟨⟨h1, h2⟩, h3⟩, h4⟩ := h
  have hh : ∀ {i : Nat} {o : Oper}, L[i]? = some o → (o.guard.isNone = true ∧ o.dst = D[i]?) ∧ o.after.all (fun e => decide (e.on < i)) = true := by
    intro i o ho
    have := h2 i (List.getElem?_eq_some_iff.1 ho).1
    rw [ho] at this
    simpa only [Option.all_some, Bool.and_eq_true, beq_iff_eq] using this
  refine ⟨h1, fun ho => Option.isNone_iff_eq_none.1 (hh ho).1.1, fun ho => (hh ho).1.2, fun ho e he => ?_, h3, h4⟩
  have := (hh ho).2
  simp only [Array.all_eq_true_iff_forall_mem, decide_eq_true_eq] at this
  exact this e he
section
variable {P : Program} {Q : Exit → Act → World → Prop}
/-- Each operation yields a value of its predicate, from values of theirs, in whatever order. -/
theorem wp_region_pr {L : List Oper} {id : Nat} {a : Act} {w : World} (hm : P.follows .mixedOrders = true) (D : List Nat) (Pr : Nat → Value → World → Prop) (hk : RegOk L D a.tmps.size)
    (hkeep : ∀ i v W W', Pr i v W → Below W.heap.size W W' → Pr i v W')
    (hstep : ∀ i o, L[i]? = some o → ∀ (b : Act) (W : World), Below w.heap.size w W → (∀ t, t ∉ D → b.tmps[t]?.getD undef = a.tmps[t]?.getD undef) → (∀ e ∈ o.after, Region.binds .any e = true → Pr e.on (b.tmps[D.getD e.on 0]?.getD undef) W) →
      ∀ K : Act → World → Prop, (∀ v W', Below W.heap.size W W' → Pr i v W' → K (b.put o.dst v) W') → o.wp P b W K Q)
    (hend : ∀ (vs : Nat → Value) (W : World), Below w.heap.size w W → (∀ i, i < L.length → Pr i (vs i) W) → Q .normal (putD a D 0 vs) W) : (Code.region id L.toArray true).wp P Q a w := by
  have at_ {i : Nat} {o : Oper} (h : L.toArray[i]? = some o) : L[i]? = some o := by simpa using h
  refine wp_region_inv hm (fun ls b W => ∃ vs : Nat → Value, b = fillA a ls (lays D 0 vs) ∧ Below w.heap.size w W ∧ ∀ i, ls.getD i false = true → Pr i (vs i) W) (fun i o ho => hk.ahead (at_ ho)) ?_ ?_ ?_
  · exact ⟨fun _ => undef, fill_none.symm, (Below.refl _ _).drew, fun i h => absurd h (by rw [getD_none]; simp)⟩
  · rintro ls b W i hs ⟨vs, rfl, hB, hP⟩ hi
    obtain ⟨hun, o, ho, hdep⟩ := mem_ready.1 hi
    have ho' := at_ ho
    have hlt : i < L.length := (List.getElem?_eq_some_iff.1 ho').1
    have hls : ls.size = L.length := by simpa using hs
    have hu : ls.getD i false = false := un_of (by omega) hun
    obtain ⟨d, hd⟩ : ∃ d, D[i]? = some d := by
      have : i < D.length := by rw [← hk.len]; exact hlt
      exact ⟨D[i], by simp [this]⟩
    have hdst : o.dst = some d := by rw [hk.dst ho', hd]
    refine wpOp_intro ho (hk.guard ho') fun K' hK => ?_
    refine hstep i o ho' _ W hB (fun t ht => ?_) (fun e he hb => ?_) K' (fun v W' hb hv => hK _ _ ?_)
    · exact fill_otherT (fun x hx e => ht (by rw [← e]; exact (lays_d hx).1)) rfl
    · have hl := hdep e he hb
      have hlt2 := hk.ahead ho' e he
      have hlt3 : e.on < D.length := by rw [← hk.len]; omega
      have he2 : D[e.on]? = some (D.getD e.on 0) := by simp [hlt3]
      have hm2 := lays_mem (vs := vs) (i := 0) he2
      rw [Nat.zero_add] at hm2
      rw [fill_evalT (lays_pw hk.nodup) hm2 hl (hk.low _ (List.mem_of_getElem? he2))]
      exact hP _ hl
    · refine ⟨fun k => if k = i then v else vs k, ?_, hB.trans (hb.mono hB.size), fun k hk2 => ?_⟩
      · rw [hdst, fill_same (m := lays D 0 (fun k => if k = i then v else vs k)) (lays_same fun k hk2 => by
          have : k ≠ i := fun e => by rw [e, hu] at hk2; cases hk2
          simp [this])]
        have hm2 := lays_mem (vs := fun k => if k = i then v else vs k) (i := 0) hd
        simp only [Nat.zero_add, if_true] at hm2
        exact fill_put (by omega) hu (lays_pw hk.nodup) hm2
      · by_cases e : k = i
        · subst e
          simpa using hv
        · rw [getD_set_ne false (Ne.symm e)] at hk2
          simp only [e, if_false]
          exact hkeep _ _ _ _ (hP k hk2) hb
  · rintro ls b W ⟨vs, rfl, hB, hP⟩ hall
    have hall' : ∀ k, k < L.length → ls.getD k false = true := fun k hk2 => hall k (by simpa using hk2)
    rw [fill_putD (fun k hk2 => hall' k (by rw [hk.len]; omega))]
    exact hend vs W hB fun i hi => hP i (hall' i hi)
end
end Go.Proofs.Ytclnmikneomccaa
