/- A drawn region whose last operation waits for all others, directly or by way of others: the others are walked in whatever state they keep, the last one behind them. -/
import Derived.Test.YtclnmikneomccaaLa
import Derived.Deep.RegionHeld3
namespace Go.Proofs.Ytclnmikneomccaa
open Go.RowKit
set_option linter.unusedVariables false
section
variable {P : Program} {Q : Exit → Act → World → Prop} {l : List Oper} {st : Oper}
/-- What st waits for, by way of up to n others. -/
def cl (l : List Oper) (st : Oper) : Nat → Nat → Bool
  | 0, i => st.after.any fun e => Region.binds .any e && e.on == i
  | n + 1, i => cl l st n i || (List.range l.length).any fun j => cl l st n j && ((l[j]?).any fun o => o.after.any fun e => Region.binds .any e && e.on == i)
/-- What is listed has all listed that it waits for. -/
def Inv (l : List Oper) (listed : Array Bool) : Prop := ∀ (i : Nat) (o : Oper), l[i]? = some o → listed.getD i false = true → ∀ e ∈ o.after, Region.binds .any e = true → listed.getD e.on false = true
theorem cl_listed {listed : Array Bool} (hI : Inv l listed) (hd : ∀ e ∈ st.after, Region.binds .any e = true → listed.getD e.on false = true) : ∀ n i, cl l st n i = true → listed.getD i false = true
  | 0, i, h => by
    simp only [cl, Array.any_eq_true', Bool.and_eq_true, beq_iff_eq] at h
    obtain ⟨e, he, hb, rfl⟩ := h
    exact hd e he hb
  | n + 1, i, h => by
    simp only [cl, Bool.or_eq_true, List.any_eq_true, Bool.and_eq_true] at h
    rcases h with h | ⟨j, _, hj, h2⟩
    · exact cl_listed hI hd n i h
    · cases ho : l[j]? with
      | none => rw [ho] at h2; simp at h2
      | some o =>
        rw [ho] at h2
        simp only [Option.any_some, Array.any_eq_true', Bool.and_eq_true, beq_iff_eq] at h2
        obtain ⟨e, he, hb, rfl⟩ := h2
        exact hI j o ho (cl_listed hI hd n j hj) e he hb
theorem getD_stays {A : Array Bool} {i j : Nat} (h : A.getD j false = true) : (A.setIfInBounds i true).getD j false = true := by
  by_cases e : i = j
  · subst e
    rw [Array.getD_eq_getD_getElem?] at h ⊢
    rw [Array.getElem?_setIfInBounds]
    cases hh : A[i]? with
    | none => rw [hh] at h; simp at h
    | some b =>
      have := (Array.getElem?_eq_some_iff.1 hh).1
      simp [this]
  · rw [getD_setN e]; exact h
theorem Inv.set {listed : Array Bool} (hI : Inv l listed) {i : Nat} (hp : ∃ o, l.toArray[i]? = some o ∧ ∀ e ∈ o.after, Region.binds .any e = true → listed.getD e.on false = true) (hi : i < l.length) : Inv l (listed.setIfInBounds i true) := by
  intro j o ho hj e he hb
  by_cases c : i = j
  · subst c
    obtain ⟨o', ho', h⟩ := hp
    have : o' = o := by simpa [ho] using ho'.symm
    subst this
    exact getD_stays (h e he hb)
  · rw [getD_setN c] at hj
    exact getD_stays (hI j o ho hj e he hb)
structure LastC (l : List Oper) (st : Oper) : Prop where
  guards : ∀ (i : Nat) (o : Oper), l[i]? = some o → o.guard = none
  guard : st.guard = none
  ahead : ∀ (i : Nat) (o : Oper), l[i]? = some o → ∀ e ∈ o.after, e.on < i
  waits : ∀ i, i < l.length → ∃ n, cl l st n i = true
  low : ∀ e ∈ st.after, e.on < l.length
theorem wpOp_iniC (hk : LastC l st) {F : Act → World → Prop} {i : Nat} {o : Oper} (hi : l[i]? = some o) {K K' : Act → World → Prop} (hK : ∀ a w, K a w → K' a w) {a : Act} {w : World}
    (h : wpOp P l.toArray (Exit.then F Q) i K a w) : wpOp P (l ++ [st]).toArray Q i K' a w := by
  have hlt : i < l.length := (List.getElem?_eq_some_iff.1 hi).1
  have hg := hk.guards i o hi
  have e1 : l.toArray[i]? = some o := by simpa using hi
  have e2 : ((l ++ [st]).toArray)[i]? = some o := by rw [at_ini hlt]; exact hi
  unfold wpOp at *
  simp only [e1, e2, Region.wanted, hg, if_true] at *
  rcases h with h | ⟨h1, h2⟩
  · exact Or.inl (wp_imp hK (fun _ _ _ h => h) (fun h => h) h)
  · exact Or.inr ⟨h1, h2⟩
theorem last_finC (hk : LastC l st) {listed : Array Bool} (hs : listed.size = l.length) (hall : ∀ i, i < l.length → listed.getD i false = true) {a : Act} {w : World}
    (h : wpOp P (l ++ [st]).toArray Q l.length (Q .normal) a w) (fuel : Nat) : wpAny P .any (l ++ [st]).toArray Q (fuel + 1) (listed.push false) a w := by
  have hn : l.length ∈ Region.ready .any (l ++ [st]).toArray (listed.push false) := by
    refine mem_ready.2 ⟨by rw [← hs]; exact getD_push_last, st, at_last, fun e he _ => ?_⟩
    rw [getD_push (by rw [hs]; exact hk.low e he)]
    exact hall _ (hk.low e he)
  refine ⟨fun h0 => (by rw [h0] at hn; cases hn), fun i hi => ?_⟩
  obtain ⟨h1, o, ho, _⟩ := mem_ready.1 hi
  have hlt : i < l.length + 1 := by have := (Array.getElem?_eq_some_iff.1 ho).1; simpa using this
  by_cases e : i = l.length
  · subst e
    refine wpOp_mono (fun a w hq => wpAny_end (ready_none fun j hj => ?_) hq fuel) h
    have hj' : j < l.length + 1 := by simpa using hj
    by_cases e : j = l.length
    · subst e; simp [Array.getD, hs]
    · have hj2 : j < listed.size := by omega
      have hv := hall j (by omega)
      rw [getD_setN (Ne.symm e)]
      rw [getD_push hj2]
      simpa [Array.getD, hj2] using hv
  · exfalso
    have hi2 : i < listed.size := by omega
    rw [getD_push hi2] at h1
    have hv := hall i (by omega)
    simp [Array.getD, hi2] at h1 hv
    rw [h1] at hv
    cases hv
theorem wpAny_lastC (hk : LastC l st) {F : Act → World → Prop} (hF : ∀ a w, F a w → wpOp P (l ++ [st]).toArray Q l.length (Q .normal) a w) :
    ∀ fuel listed a w, listed.size = l.length → Inv l listed → wpAny P .any l.toArray (Exit.then F Q) fuel listed a w → wpAny P .any (l ++ [st]).toArray Q (fuel + 1) (listed.push false) a w
  | 0, listed, a, w, hs, hI, h => last_finC hk hs (fun i hi => all_of_readyL (by simpa using hs) (fun i o ho => hk.ahead i o (by simpa using ho)) h.1 i (by simpa using hi)) (hF _ _ h.2) 0
  | fuel + 1, listed, a, w, hs, hI, h => by
    by_cases hr : Region.ready .any l.toArray listed = []
    · exact last_finC hk hs (fun i hi => all_of_readyL (by simpa using hs) (fun i o ho => hk.ahead i o (by simpa using ho)) hr i (by simpa using hi)) (hF _ _ (h.1 hr)) _
    · have up : ∀ i, i ∈ Region.ready .any l.toArray listed → i ∈ Region.ready .any (l ++ [st]).toArray (listed.push false) := by
        intro i hi
        obtain ⟨h1, o, ho, h2⟩ := mem_ready.1 hi
        have hil : i < l.length := by have := (Array.getElem?_eq_some_iff.1 ho).1; simpa using this
        refine mem_ready.2 ⟨by rw [getD_push (by omega)]; exact h1, o, by rw [at_ini hil]; simpa using ho, fun e he hb => ?_⟩
        have := hk.ahead i o (by simpa using ho) e he
        rw [getD_push (by omega)]
        exact h2 e he hb
      refine ⟨fun h0 => ?_, fun i hi => ?_⟩
      · exfalso
        apply hr
        rw [List.eq_nil_iff_forall_not_mem]
        intro i hi
        have := up i hi
        rw [h0] at this
        cases this
      · obtain ⟨h1, o, ho, h2⟩ := mem_ready.1 hi
        have hlt : i < l.length + 1 := by have := (Array.getElem?_eq_some_iff.1 ho).1; simpa using this
        by_cases e : i = l.length
        · exfalso
          subst e
          rw [at_last] at ho
          cases ho
          apply hr
          refine ready_none fun j hj => ?_
          have hj' : j < l.length := by simpa using hj
          obtain ⟨n, hn⟩ := hk.waits j hj'
          have hd : ∀ e ∈ st.after, Region.binds .any e = true → listed.getD e.on false = true := fun e he hb => by
            have h3 := h2 e he hb
            rwa [getD_push (by have := hk.low e he; omega)] at h3
          have h4 := cl_listed hI hd n j hn
          simpa [Array.getD, show j < listed.size by omega] using h4
        · have hil : i < l.length := by omega
          rw [at_ini hil] at ho
          have hm : i ∈ Region.ready .any l.toArray listed := by
            refine mem_ready.2 ⟨by rw [getD_push (by omega)] at h1; exact h1, o, by simpa using ho, fun e he hb => ?_⟩
            have h3 := hk.ahead i o ho e he
            have := h2 e he hb
            rwa [getD_push (by omega)] at this
          refine wpOp_iniC hk ho (fun a w hh => ?_) (h.2 i hm)
          rw [push_set (by omega)]
          exact wpAny_lastC hk hF fuel _ a w (by simp [hs]) (hI.set (mem_ready.1 hm).2 (by simpa using hil)) hh
theorem wp_region_lastH {L : List Oper} {S : World → Prop} {id : Nat} {a : Act} {w : World} (hm : P.follows .mixedOrders = true) (hst : L.getLast? = some st) (hl : L.dropLast = l) (hk : LastC l st) (hS : S w.drew)
    (h : S w.drew → wpAnyH P .any l.toArray (Exit.then (fun a' w' => wpList P L.toArray Q [st] a' w') Q) S l.length (Array.replicate l.length false) a w.drew) : (Code.region id L.toArray true).wp P Q a w := by
  have e : L = l ++ [st] := by
    obtain ⟨ys, rfl⟩ := List.getLast?_eq_some_iff.1 hst
    rw [List.dropLast_concat] at hl
    rw [hl]
  subst e
  have hw := wpAny_of_held _ _ _ _ (h hS)
  refine wp_region_any hm ?_
  have hI : Inv l (Array.replicate l.length false) := by
    intro i o _ hj
    simp [Array.getD] at hj
  have hz := wpAny_lastC hk (F := fun a' w' => wpList P (l ++ [st]).toArray Q [st] a' w') (fun a' w' hh => ?_) l.length (Array.replicate l.length false) a w.drew (by simp) hI hw
  · have e : (Array.replicate (l ++ [st]).toArray.size false) = (Array.replicate l.length false).push false := by simp [Array.replicate_succ]
    rw [e]
    simpa using hz
  · unfold wpOp
    rw [at_last]
    simpa [wpList] using hh
def lastCB (N : Nat) (l : List Oper) (st : Oper) : Bool :=
  l.all (fun o => o.guard.isNone) && st.guard.isNone && (List.range l.length).all (fun i => (l[i]?).all (fun o => o.after.all (fun e => decide (e.on < i))))
    && (List.range l.length).all (fun i => cl l st N i) && st.after.all (fun e => decide (e.on < l.length))
theorem lastC_of (N : Nat) (h : lastCB N l st = true) : LastC l st := by
  simp only [lastCB, Bool.and_eq_true, List.all_eq_true, List.mem_range, Array.all_eq_true_iff_forall_mem, decide_eq_true_eq, Option.isNone_iff_eq_none] at h
  obtain ⟨⟨⟨⟨h1, h2⟩, h3⟩, h4⟩, h5⟩ := h
  refine ⟨fun i o ho => h1 o (List.mem_of_getElem? ho), h2, fun i o ho e he => ?_, fun i hi => ⟨N, h4 i hi⟩, h5⟩
  have := h3 i (List.getElem?_eq_some_iff.1 ho).1
  rw [ho] at this
  simp only [Option.all_some, Array.all_eq_true_iff_forall_mem, decide_eq_true_eq] at this
  exact this e he
end
end Go.Proofs.Ytclnmikneomccaa
