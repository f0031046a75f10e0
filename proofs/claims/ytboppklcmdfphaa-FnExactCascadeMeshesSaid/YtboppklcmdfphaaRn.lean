/- A region walked as everywhere is walked in a round of a loop over a function, too: where no operation is a defer, and the round lets nothing outgrow. -/
import Derived.Test.YtboppklcmdfphaaLa
import Derived.RangeFuncNested
import Derived.RangeFuncBound
import Derived.RangeFuncCalls
import Derived.RangeFuncLeaves
import Derived.OrdersIn
import Derived.Orders
import Derived.TacticsIn
import Derived.TacticsInMore
namespace Go.Proofs.Ytboppklcmdfphaa
open Go.RowKit
section
variable {P : Program} {ops : Array Oper} {Q : Exit → Act → World → Prop} {l n : Nat}
theorem op_round {o : Oper} {a : Act} {w : World} {K K' : Act → World → Prop} (hd : ∀ c, o.op ≠ .defer c) (hK : ∀ a w, K a w → K' a w) (h : o.wp P a w K Q) : o.wpIn (Fence.wide.inRound l) n P a w K' Q := by
  unfold Oper.wp at h
  unfold Oper.wpIn
  refine ⟨fun _ _ => trivial, ?_⟩
  rw [Oper.semAt_eq _ _ _ hd]
  generalize (execOp a.eval o).run P w = r at *
  cases r with
  | ok x w' =>
    cases x <;> simp only [Oper.upon, Oper.uponIn] at h ⊢
    · exact hK _ _ h
    · exact hK _ _ h
    · refine ⟨fun hh => by simp [Fence.inRound, Fence.wide] at hh, CallsIn.inRound l (callsIn_wide.2 (Calls.mono h ?_))⟩
      intro e w'' he
      cases e
      · exact hK _ _ he
      · exact he
      · exact he
    · exact hK _ _ h
    · refine ⟨fun hh => by simp [Fence.inRound, Fence.wide] at hh, fun c cs _ => ?_⟩
      obtain ⟨v, w', hr, hs⟩ := h c cs
      exact ⟨v, w', hK _ _ hr, stepsIn_wide.2 hs⟩
  | halt x w' => cases x <;> simp only [Oper.upon, Oper.uponIn] at h ⊢ <;> exact h
/-- No operation of the list is a defer. -/
def calmB (ops : List Oper) : Bool := ops.all fun o => match o.op with | .defer _ => false | _ => true
theorem calm_of {ops : List Oper} (h : calmB ops = true) {o : Oper} (ho : o ∈ ops) : ∀ c, o.op ≠ .defer c := by
  intro c hc
  have := List.all_eq_true.1 h o ho
  simp [hc] at this
theorem wpOp_round (hd : calmB ops.toList = true) (hQ : ¬LetsOut Q) {i : Nat} {a : Act} {w : World} {K K' : Act → World → Prop} (hK : ∀ a w, K a w → K' a w) (h : wpOp P ops Q i K a w) : wpOpIn (Fence.wide.inRound l) n P ops Q i K' a w := by
  unfold wpOp at h
  unfold wpOpIn
  cases ho : ops[i]? with
  | none => simp only [ho] at h ⊢; exact hK _ _ h
  | some o =>
    simp only [ho] at h ⊢
    split at h
    · rename_i hw
      simp only [hw, if_true]
      rcases h with h | ⟨_, h⟩
      · refine op_round (calm_of hd ?_) hK h
        exact Array.mem_toList_iff.2 (Array.mem_of_getElem? ho)
      · exact absurd h hQ
    · rename_i hw
      simp only [hw]
      exact ⟨fun _ _ => trivial, hK _ _ h⟩
theorem wpAny_round (hd : calmB ops.toList = true) (hQ : ¬LetsOut Q) : ∀ (fuel : Nat) (listed : Array Bool) (a : Act) (w : World), wpAny P .any ops Q fuel listed a w → wpAnyIn (Fence.wide.inRound l) n P .any ops Q fuel listed a w
  | 0, _, _, _, h => h
  | fuel + 1, _, _, _, h => ⟨h.1, fun i hi => wpOp_round hd hQ (fun a w hh => wpAny_round hd hQ fuel _ a w hh) (h.2 i hi)⟩
theorem region_round {id : Nat} {a : Act} {w : World} (hm : P.follows .mixedOrders = true) (hd : calmB ops.toList = true) (hQ : ¬LetsOut Q)
    (h : wpAny P .any ops Q ops.size (Array.replicate ops.size false) a { w with drawn := w.drawn + 1 }) : (Code.region id ops true).wpIn (Fence.wide.inRound l) n P Q a w :=
  wpIn_region_any hm (wpAny_round hd hQ _ _ _ _ h)
theorem wpList_round {L : List Oper} (hQ : ¬LetsOut Q) : ∀ (ops' : List Oper), calmB ops' = true → ∀ (a : Act) (w : World), wpList P L.toArray Q ops' a w → wpListIn (Fence.wide.inRound l) n P L.toArray Q ops' a w
  | [], _, _, _, h => h
  | o :: rest, hd, a, w, h => by
    have hd1 : calmB rest = true := by simp [calmB] at hd ⊢; exact hd.2
    simp only [wpList, wpListIn] at h ⊢
    split at h
    · rename_i hw
      simp only [hw, if_true]
      rcases h with h | ⟨_, h⟩
      · exact op_round (calm_of hd (by simp)) (fun a w hh => wpList_round hQ rest hd1 a w hh) h
      · exact absurd h hQ
    · rename_i hw
      simp only [hw]
      exact ⟨fun _ _ => trivial, wpList_round hQ rest hd1 _ _ h⟩
theorem region_round_lit {id : Nat} {L : List Oper} {a : Act} {w : World} (hd : calmB L = true) (hQ : ¬LetsOut Q) (h : wpList P L.toArray Q L a w) : (Code.region id L.toArray false).wpIn (Fence.wide.inRound l) n P Q a w :=
  wpIn_region_lit (wpList_round hQ L hd a w h)
theorem round_lastA {id r k : Nat} {l : List Oper} {st : Oper} {a : Act} {w : World} (B : Nat) (hm : P.follows .mixedOrders = true) (hB : Region.lexB .any l.toArray = true) (hk : LastOk l st)
    (h : Nonempty (Kept B w) → wpQuiet P l.toArray (fun w' => ∃ x : Kept B w, w' = x.w) (fun a' => ∀ w', (∃ x : Kept B w, w' = x.w) → wpList P (l ++ [st]).toArray Q [st] a' w') l a) (hcalm : calmB (l ++ [st]) = true) (hQ : ¬LetsOut Q) : (Code.region id (l ++ [st]).toArray true).wpIn (Fence.wide.inRound r) k P Q a w := by
  simp only [Region.lexB, Bool.and_eq_true] at hB
  have h' := h ⟨⟨w, Below.refl B w⟩⟩
  have hq := wpAnyQ_lex (C := fun w' => ∃ x : Kept B w, w' = x.w) (md := .any) hB.1 l 0 (Array.replicate l.length false) a (by simp) (by simpa using hB.2) h'
  have hd : ∃ x : Kept B w, w.drew = x.w := ⟨⟨w.drew, (Below.refl B w).drew⟩, rfl⟩
  have hw := wpAny_of_quiet (Q' := Exit.then (fun a' w' => wpList P (l ++ [st]).toArray Q [st] a' w') Q) (fun a' w' hw' hh => hh w' hw') l.length (Array.replicate l.length false) a w.drew hd hq
  refine region_round hm (by simpa using hcalm) hQ ?_
  have hz := wpAny_last hk (F := fun a' w' => wpList P (l ++ [st]).toArray Q [st] a' w') (fun a' w' hh => ?_) l.length (Array.replicate l.length false) a w.drew (by simp) hw
  · have e : (Array.replicate (l ++ [st]).toArray.size false) = (Array.replicate l.length false).push false := by simp [Array.replicate_succ]
    rw [e]
    simpa using hz
  · unfold wpOp
    rw [at_last]
    simpa [wpList] using hh
theorem round_last {L : List Oper} {id r k : Nat} {l : List Oper} {st : Oper} {a : Act} {w : World} (B : Nat) (hm : P.follows .mixedOrders = true) (hst : L.getLast? = some st) (hl : L.dropLast = l) (hB : Region.lexB .any l.toArray = true) (hk : LastOk l st)
    (h : Nonempty (Kept B w) → wpQuiet P l.toArray (fun w' => ∃ x : Kept B w, w' = x.w) (fun a' => ∀ w', (∃ x : Kept B w, w' = x.w) → wpList P (l ++ [st]).toArray Q [st] a' w') l a) (hcalm : calmB L = true) (hQ : ¬LetsOut Q) : (Code.region id L.toArray true).wpIn (Fence.wide.inRound r) k P Q a w := by
  have e : L = l ++ [st] := by
    obtain ⟨ys, rfl⟩ := List.getLast?_eq_some_iff.1 hst
    rw [List.dropLast_concat] at hl
    rw [hl]
  rw [e]
  exact round_lastA B hm hB hk h (e ▸ hcalm) hQ
end
end Go.Proofs.Ytboppklcmdfphaa
