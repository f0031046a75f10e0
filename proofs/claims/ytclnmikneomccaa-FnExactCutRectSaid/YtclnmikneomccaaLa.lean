/- A region that draws its order, whose operations only read or call what makes new memory, all but the last one, which waits for all others (a store, say): one walk of the text's order serves every order; the last operation is walked behind it. -/
import Derived.Test.YtclnmikneomccaaMods
import Derived.Deep.Quiet
import Derived.Deep.QuietTactic
import Derived.BigQuiet
import Derived.OrdersHeld
namespace Go.Proofs.Ytclnmikneomccaa
open Go.RowKit
section
variable {P : Program} {Q : Exit → Act → World → Prop} {l : List Oper} {st : Oper}
theorem getD_inL {listed : Array Bool} {i : Nat} (hi : i < listed.size) (h : listed.getD i false = false) : listed.getD i true = false := by
  simp [hi] at h ⊢; exact h
theorem all_of_readyL {ops : Array Oper} {listed : Array Bool} (hs : listed.size = ops.size) (hb : ∀ (i : Nat) (o : Oper), ops[i]? = some o → ∀ e ∈ o.after, e.on < i) (h : Region.ready .any ops listed = []) : ∀ i, i < ops.size → listed.getD i false = true := by
  intro i
  induction i using Nat.strongRecOn with
  | _ i ih =>
    intro hi
    cases hl : listed.getD i false with
    | true => rfl
    | false =>
      exfalso
      have hm : i ∈ Region.ready .any ops listed := by
        refine mem_ready.2 ⟨getD_inL (by omega) hl, ops[i], by simp [hi], fun e he _ => ?_⟩
        have h1 := hb i ops[i] (by simp [hi]) e he
        exact ih e.on h1 (by omega)
      rw [h] at hm
      cases hm
theorem ready_none {ops : Array Oper} {listed : Array Bool} (h : ∀ i, i < ops.size → listed.getD i true = true) : Region.ready .any ops listed = [] := by
  rw [List.eq_nil_iff_forall_not_mem]
  intro i hi
  obtain ⟨h1, o, ho, _⟩ := mem_ready.1 hi
  rw [h i (Array.getElem?_eq_some_iff.1 ho).1] at h1
  cases h1
theorem wpAny_end {ops : Array Oper} {listed : Array Bool} (h : Region.ready .any ops listed = []) {a : Act} {w : World} (hq : Q .normal a w) : ∀ fuel, wpAny P .any ops Q fuel listed a w
  | 0 => ⟨h, hq⟩
  | _ + 1 => ⟨fun _ => hq, fun i hi => by rw [h] at hi; cases hi⟩
theorem wp_imp {Q' : Exit → Act → World → Prop} {o : Oper} {a : Act} {w : World} {K K' : Act → World → Prop} (h : ∀ a w, K a w → K' a w) (hp : ∀ c a w, Q (.panic c) a w → Q' (.panic c) a w) (hl : LetsOut Q → LetsOut Q')
    (hh : o.wp P a w K Q) : o.wp P a w K' Q' := by
  unfold Oper.wp at *
  generalize (execOp a.eval o).run P w = r at *
  cases r with
  | ok n w' =>
    cases n <;> simp only [Oper.upon] at hh ⊢ <;>
      first
        | exact h _ _ hh
        | exact Calls.mono hh (fun e w'' he => by cases e <;> first | exact h _ _ he | exact hp _ _ _ he | exact hl he)
        | exact Rows.mono hh (fun _ _ he => h _ _ he)
  | halt x w' => cases x <;> simp only [Oper.upon] at hh ⊢ <;> first | exact hp _ _ _ hh | exact hh
/-- What the last operation waits for, and what no operation has. -/
structure LastOk (l : List Oper) (st : Oper) : Prop where
  guards : ∀ (i : Nat) (o : Oper), l[i]? = some o → o.guard = none
  guard : st.guard = none
  ahead : ∀ (i : Nat) (o : Oper), l[i]? = some o → ∀ e ∈ o.after, e.on < i
  waits : ∀ i, i < l.length → ∃ e ∈ st.after, Region.binds .any e = true ∧ e.on = i
  low : ∀ e ∈ st.after, e.on < l.length
theorem at_ini {i : Nat} (hi : i < l.length) : ((l ++ [st]).toArray)[i]? = l[i]? := by simp [List.getElem?_append_left hi]
theorem at_last : ((l ++ [st]).toArray)[l.length]? = some st := by simp
theorem wpOp_ini (hk : LastOk l st) {F : Act → World → Prop} {i : Nat} {o : Oper} (hi : l[i]? = some o) {K K' : Act → World → Prop} (hK : ∀ a w, K a w → K' a w) {a : Act} {w : World}
    (h : wpOp P l.toArray (Exit.then F Q) i K a w) : wpOp P (l ++ [st]).toArray Q i K' a w := by
  have hlt : i < l.length := (List.getElem?_eq_some_iff.1 hi).1
  have hg := hk.guards i o hi
  have e1 : l.toArray[i]? = some o := by simpa using hi
  have e2 : ((l ++ [st]).toArray)[i]? = some o := by rw [at_ini hlt]; exact hi
  unfold wpOp at *
  simp only [e1, e2, Region.wanted, hg, if_true] at *
  rcases h with h | ⟨h1, h2⟩
  · exact Or.inl (wp_imp hK (fun _ _ _ h => h) (fun h => h) h)
  · exact Or.inr ⟨h1, h2⟩
theorem getD_push {A : Array Bool} {d x : Bool} {i : Nat} (hi : i < A.size) : (A.push x).getD i d = A.getD i d := by
  simp [Array.getD, hi, Nat.lt_succ_of_lt hi, Array.getElem_push_lt hi]
theorem getD_push_last {A : Array Bool} {d x : Bool} : (A.push x).getD A.size d = x := by simp [Array.getD]
theorem getD_setN {A : Array Bool} {i j : Nat} {v d : Bool} (h : i ≠ j) : (A.setIfInBounds i v).getD j d = A.getD j d := by
  rw [Array.getD_eq_getD_getElem?, Array.getD_eq_getD_getElem?, Array.getElem?_setIfInBounds]
  simp [h]
theorem last_fin (hk : LastOk l st) {listed : Array Bool} (hs : listed.size = l.length) (hall : ∀ i, i < l.length → listed.getD i false = true) {a : Act} {w : World}
    (h : wpOp P (l ++ [st]).toArray Q l.length (Q .normal) a w) (fuel : Nat) : wpAny P .any (l ++ [st]).toArray Q (fuel + 1) (listed.push false) a w := by
  have hn : l.length ∈ Region.ready .any (l ++ [st]).toArray (listed.push false) := by
    refine mem_ready.2 ⟨by rw [← hs]; exact getD_push_last, st, at_last, fun e he _ => ?_⟩
    rw [getD_push (by rw [hs]; exact hk.low e he)]
    exact hall _ (hk.low e he)
  refine ⟨fun h0 => (by rw [h0] at hn; cases hn), fun i hi => ?_⟩
  obtain ⟨h1, o, ho, _⟩ := mem_ready.1 hi
  have hlt : i < l.length + 1 := by have := (Array.getElem?_eq_some_iff.1 ho).1; simpa using this
  by_cases e : i = l.length
  · subst e
    refine wpOp_mono (fun a w hq => wpAny_end (ready_none fun j hj => ?_) hq fuel) h
    have hj' : j < l.length + 1 := by simpa using hj
    by_cases e : j = l.length
    · subst e; simp [Array.getD, hs]
    · have hj2 : j < listed.size := by omega
      have hv := hall j (by omega)
      rw [getD_setN (Ne.symm e)]
      rw [getD_push hj2]
      simpa [Array.getD, hj2] using hv
  · exfalso
    have hi2 : i < listed.size := by omega
    rw [getD_push hi2] at h1
    have hv := hall i (by omega)
    simp [Array.getD, hi2] at h1 hv
    rw [h1] at hv
    cases hv
theorem push_set {A : Array Bool} {x : Bool} {i : Nat} (hi : i < A.size) : (A.push x).setIfInBounds i true = (A.setIfInBounds i true).push x := by
  apply Array.ext_getElem?
  intro j
  rw [Array.getElem?_setIfInBounds, Array.getElem?_push, Array.getElem?_push, Array.getElem?_setIfInBounds]
  by_cases e : i = j
  · subst e
    simp [hi, Nat.ne_of_lt hi, Nat.lt_succ_of_lt hi]
  · simp [e]
theorem wpAny_last (hk : LastOk l st) {F : Act → World → Prop} (hF : ∀ a w, F a w → wpOp P (l ++ [st]).toArray Q l.length (Q .normal) a w) :
    ∀ fuel listed a w, listed.size = l.length → wpAny P .any l.toArray (Exit.then F Q) fuel listed a w → wpAny P .any (l ++ [st]).toArray Q (fuel + 1) (listed.push false) a w
  | 0, listed, a, w, hs, h => last_fin hk hs (fun i hi => all_of_readyL (by simpa using hs) (fun i o ho => hk.ahead i o (by simpa using ho)) h.1 i (by simpa using hi)) (hF _ _ h.2) 0
  | fuel + 1, listed, a, w, hs, h => by
    by_cases hr : Region.ready .any l.toArray listed = []
    · exact last_fin hk hs (fun i hi => all_of_readyL (by simpa using hs) (fun i o ho => hk.ahead i o (by simpa using ho)) hr i (by simpa using hi)) (hF _ _ (h.1 hr)) _
    · have up : ∀ i, i ∈ Region.ready .any l.toArray listed → i ∈ Region.ready .any (l ++ [st]).toArray (listed.push false) := by
        intro i hi
        obtain ⟨h1, o, ho, h2⟩ := mem_ready.1 hi
        have hil : i < l.length := by have := (Array.getElem?_eq_some_iff.1 ho).1; simpa using this
        refine mem_ready.2 ⟨by rw [getD_push (by omega)]; exact h1, o, by rw [at_ini hil]; simpa using ho, fun e he hb => ?_⟩
        have := hk.ahead i o (by simpa using ho) e he
        rw [getD_push (by omega)]
        exact h2 e he hb
      refine ⟨fun h0 => ?_, fun i hi => ?_⟩
      · exfalso
        apply hr
        rw [List.eq_nil_iff_forall_not_mem]
        intro i hi
        have := up i hi
        rw [h0] at this
        cases this
      · obtain ⟨h1, o, ho, h2⟩ := mem_ready.1 hi
        have hlt : i < l.length + 1 := by have := (Array.getElem?_eq_some_iff.1 ho).1; simpa using this
        by_cases e : i = l.length
        · exfalso
          subst e
          rw [at_last] at ho
          cases ho
          apply hr
          refine ready_none fun j hj => ?_
          have hj' : j < l.length := by simpa using hj
          obtain ⟨e, he, hb, rfl⟩ := hk.waits j hj'
          have := h2 e he hb
          rw [getD_push (by omega)] at this
          simpa [Array.getD, show e.on < listed.size by omega] using this
        · have hil : i < l.length := by omega
          rw [at_ini hil] at ho
          have hm : i ∈ Region.ready .any l.toArray listed := by
            refine mem_ready.2 ⟨by rw [getD_push (by omega)] at h1; exact h1, o, by simpa using ho, fun e he hb => ?_⟩
            have h3 := hk.ahead i o ho e he
            have := h2 e he hb
            rwa [getD_push (by omega)] at this
          refine wpOp_ini hk ho (fun a w hh => ?_) (h.2 i hm)
          rw [push_set (by omega)]
          exact wpAny_last hk hF fuel _ a w (by simp [hs]) hh
/-- A world in which all that lay below B in W is as it was. -/
structure Kept (B : Nat) (W : World) where
  w : World
  h : Below B W w
theorem Kept.cell {B : Nat} {W : World} (x : Kept B W) {p : Addr} {v : Value} (hp : p.block < B) (h : W.cell? p = some v) : x.w.cell? p = some v := by rw [x.h.cell hp]; exact h
theorem Calls.kept_of {f : FuncId} {args : Array Value} {B : Nat} {W : World} {x : Kept B W} {v : Value} (hB : B ≤ W.heap.size)
    (h : Calls P f args x.w fun e w' => e = .returned v ∧ Below x.w.heap.size x.w w') : Calls P f args x.w fun e w'' => e = .returned v ∧ ∃ y : Kept B W, w'' = y.w :=
  h.mono fun _ w' ⟨he, hb⟩ => ⟨he, ⟨w', x.h.trans (hb.mono (Nat.le_trans hB x.h.size))⟩, rfl⟩
theorem wp_region_last {id : Nat} {a : Act} {w : World} (B : Nat) (hm : P.follows .mixedOrders = true) (hB : Region.lexB .any l.toArray = true) (hk : LastOk l st)
    (h : Nonempty (Kept B w) → wpQuiet P l.toArray (fun w' => ∃ x : Kept B w, w' = x.w) (fun a' => ∀ w', (∃ x : Kept B w, w' = x.w) → wpList P (l ++ [st]).toArray Q [st] a' w') l a) : (Code.region id (l ++ [st]).toArray true).wp P Q a w := by
  simp only [Region.lexB, Bool.and_eq_true] at hB
  have h' := h ⟨⟨w, Below.refl B w⟩⟩
  have hq := wpAnyQ_lex (C := fun w' => ∃ x : Kept B w, w' = x.w) (md := .any) hB.1 l 0 (Array.replicate l.length false) a (by simp) (by simpa using hB.2) h'
  have hd : ∃ x : Kept B w, w.drew = x.w := ⟨⟨w.drew, (Below.refl B w).drew⟩, rfl⟩
  have hw := wpAny_of_quiet (Q' := Exit.then (fun a' w' => wpList P (l ++ [st]).toArray Q [st] a' w') Q) (fun a' w' hw' hh => hh w' hw') l.length (Array.replicate l.length false) a w.drew hd hq
  refine wp_region_any hm ?_
  have hz := wpAny_last hk (F := fun a' w' => wpList P (l ++ [st]).toArray Q [st] a' w') (fun a' w' hh => ?_) l.length (Array.replicate l.length false) a w.drew (by simp) hw
  · have e : (Array.replicate (l ++ [st]).toArray.size false) = (Array.replicate l.length false).push false := by simp [Array.replicate_succ]
    rw [e]
    simpa using hz
  · unfold wpOp
    rw [at_last]
    simpa [wpList] using hh
def lastB (l : List Oper) (st : Oper) : Bool :=
  l.all (fun o => o.guard.isNone) && st.guard.isNone && (List.range l.length).all (fun i => (l[i]?).all (fun o => o.after.all (fun e => decide (e.on < i))))
    && (List.range l.length).all (fun i => st.after.any (fun e => Region.binds .any e && e.on == i)) && st.after.all (fun e => decide (e.on < l.length))
theorem lastOk_of (h : lastB l st = true) : LastOk l st := by
  simp only [lastB, Bool.and_eq_true, List.all_eq_true, List.mem_range, Array.all_eq_true_iff_forall_mem, decide_eq_true_eq, Array.any_eq_true', Option.isNone_iff_eq_none, beq_iff_eq] at h
  obtain ⟨⟨⟨⟨h1, h2⟩, h3⟩, h4⟩, h5⟩ := h
  refine ⟨fun i o ho => h1 o (List.mem_of_getElem? ho), h2, fun i o ho e he => ?_, fun i hi => ?_, h5⟩
  · have := h3 i (List.getElem?_eq_some_iff.1 ho).1
    rw [ho] at this
    simp only [Option.all_some, Array.all_eq_true_iff_forall_mem, decide_eq_true_eq] at this
    exact this e he
  · obtain ⟨e, he, hb, ho⟩ := h4 i hi
    exact ⟨e, he, hb, ho⟩
theorem wp_region_last' {L : List Oper} {id : Nat} {a : Act} {w : World} (B : Nat) (hm : P.follows .mixedOrders = true) (hst : L.getLast? = some st) (hl : L.dropLast = l) (hB : Region.lexB .any l.toArray = true) (hk : LastOk l st)
    (h : Nonempty (Kept B w) → wpQuiet P l.toArray (fun w' => ∃ x : Kept B w, w' = x.w) (fun a' => ∀ w', (∃ x : Kept B w, w' = x.w) → wpList P (l ++ [st]).toArray Q [st] a' w') l a) : (Code.region id L.toArray true).wp P Q a w := by
  have e : L = l ++ [st] := by
    obtain ⟨ys, rfl⟩ := List.getLast?_eq_some_iff.1 hst
    rw [List.dropLast_concat] at hl
    rw [hl]
  rw [e]
  exact wp_region_last B hm hB hk h
end
end Go.Proofs.Ytclnmikneomccaa
