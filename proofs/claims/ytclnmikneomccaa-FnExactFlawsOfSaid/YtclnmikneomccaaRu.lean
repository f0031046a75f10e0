/- A drawn region that ends in two stores: as text Rl of an elder seat, each operation stamped with the sizes of the heap ahead of it and behind it: what two of them made lies apart. -/
import Derived.Test.YtclnmikneomccaaRg
import Derived.Test.YtclnmikneomccaaLa
import Derived.Test.YtclnmikneomccaaLq
namespace Go.Proofs.Ytclnmikneomccaa
open Go.RowKit
section
variable {P : Program} {Q : Exit → Act → World → Prop} {s1 s2 : Oper}
theorem wp_region_sd_last2 {L M : List Oper} {id : Nat} {a : Act} {w : World} (hm : P.follows .mixedOrders = true) (hs2 : M.getLast? = some s2) (hs1 : M.dropLast.getLast? = some s1) (hml : M.dropLast.dropLast = L) (hk1 : LastC L s1) (hk2 : LastOk (L ++ [s1]) s2) (D : List Nat) (Pr : Nat → Value → World → (Nat → Nat) → (Nat → Nat) → Prop) (hk : RegOk L D a.tmps.size)
    (hkeep : ∀ i v W W' ts te ts' te', (∀ k, (k = i ∨ ∃ o, L[i]? = some o ∧ ∃ e ∈ o.after, Region.binds .any e = true ∧ e.on = k) → ts' k = ts k ∧ te' k = te k) → Pr i v W ts te → Below W.heap.size W W' → Pr i v W' ts' te')
    (hstep : ∀ i o, L[i]? = some o → ∀ (b : Act) (W : World) (ts te : Nat → Nat), Below w.heap.size w W → (∀ t, t ∉ D → b.tmps[t]?.getD undef = a.tmps[t]?.getD undef) → (∀ e ∈ o.after, Region.binds .any e = true → Pr e.on (b.tmps[D.getD e.on 0]?.getD undef) W ts te) →
      ∀ (Q1 : Exit → Act → World → Prop) (K : Act → World → Prop), (∀ v W', Below W.heap.size W W' → (∀ ts' te', (∀ k, k ≠ i → ts' k = ts k ∧ te' k = te k) → ts' i = W.heap.size → te' i = W'.heap.size → Pr i v W' ts' te') → K (b.put o.dst v) W') → o.wp P b W K Q1)
    (hend : ∀ (vs : Nat → Value) (ts te : Nat → Nat) (W : World), Below w.heap.size w W → (∀ i, i < L.length → Pr i (vs i) W ts te) → (∀ i j, i < L.length → j < L.length → i ≠ j → te i ≤ ts j ∨ te j ≤ ts i) → wpList P (L ++ [s1] ++ [s2]).toArray Q [s1, s2] (putD a D 0 vs) W) : (Code.region id M.toArray true).wp P Q a w := by
  have eM : M = L ++ [s1] ++ [s2] := by
    obtain ⟨ys, rfl⟩ := List.getLast?_eq_some_iff.1 hs2
    rw [List.dropLast_concat] at hs1 hml
    obtain ⟨zs, rfl⟩ := List.getLast?_eq_some_iff.1 hs1
    rw [List.dropLast_concat] at hml
    rw [hml]
  rw [eM]
  obtain ⟨G, hG⟩ : ∃ G : Act → World → Prop, G = fun a' w' => wpOp P (L ++ [s1] ++ [s2]).toArray Q (L ++ [s1]).length (Q .normal) a' w' := ⟨_, rfl⟩
  obtain ⟨F, hF⟩ : ∃ F : Act → World → Prop, F = fun a' w' => wpOp P (L ++ [s1]).toArray (Exit.then G Q) L.length ((Exit.then G Q) .normal) a' w' := ⟨_, rfl⟩
  have at_ {i : Nat} {o : Oper} (h : L.toArray[i]? = some o) : L[i]? = some o := by simpa using h
  have hz : wpAny P .any L.toArray (Exit.then F (Exit.then G Q)) L.length (Array.replicate L.length false) a w.drew := by
    refine wpAny_inv (Inv := fun ls b W => ∃ (vs : Nat → Value) (ts te : Nat → Nat), b = fillA a ls (lays D 0 vs) ∧ Below w.heap.size w W ∧ (∀ i, ls.getD i false = true → Pr i (vs i) W ts te ∧ te i ≤ W.heap.size ∧ ∀ o, L[i]? = some o → ∀ e ∈ o.after, Region.binds .any e = true → ls.getD e.on false = true) ∧ ∀ i j, ls.getD i false = true → ls.getD j false = true → i ≠ j → te i ≤ ts j ∨ te j ≤ ts i) (fun i o ho => hk.ahead (at_ ho)) ?_ ?_ L.length _ _ _ (by simp) ?_ (by simp)
    rotate_left 2
    · exact ⟨fun _ => undef, fun _ => 0, fun _ => 0, fill_none.symm, (Below.refl _ _).drew, fun i h => absurd h (by rw [getD_none]; simp), fun i j h => absurd h (by rw [getD_none]; simp)⟩
    · rintro ls b W i hs ⟨vs, ts, te, rfl, hB, hP, hD⟩ hi
      obtain ⟨hun, o, ho, hdep⟩ := mem_ready.1 hi
      have ho' := at_ ho
      have hlt : i < L.length := (List.getElem?_eq_some_iff.1 ho').1
      have hls : ls.size = L.length := by simpa using hs
      have hu : ls.getD i false = false := un_of (by omega) hun
      obtain ⟨d, hd⟩ : ∃ d, D[i]? = some d := by
        have : i < D.length := by rw [← hk.len]; exact hlt
        exact ⟨D[i], by simp [this]⟩
      have hdst : o.dst = some d := by rw [hk.dst ho', hd]
      refine wpOp_intro ho (hk.guard ho') fun K' hK => ?_
      refine hstep i o ho' _ W ts te hB (fun t ht => ?_) (fun e he hb => ?_) _ K' (fun v W' hb hv => hK _ _ ?_)
      · exact fill_otherT (fun x hx e => ht (by rw [← e]; exact (lays_d hx).1)) rfl
      · have hl := hdep e he hb
        have hlt2 := hk.ahead ho' e he
        have hlt3 : e.on < D.length := by rw [← hk.len]; omega
        have he2 : D[e.on]? = some (D.getD e.on 0) := by simp [hlt3]
        have hm2 := lays_mem (vs := vs) (i := 0) he2
        rw [Nat.zero_add] at hm2
        rw [fill_evalT (lays_pw hk.nodup) hm2 hl (hk.low _ (List.mem_of_getElem? he2))]
        exact (hP _ hl).1
      · refine ⟨fun k => if k = i then v else vs k, fun k => if k = i then W.heap.size else ts k, fun k => if k = i then W'.heap.size else te k, ?_, hB.trans (hb.mono hB.size), fun k hk2 => ?_, fun k m hk2 hm2 hne => ?_⟩
        · rw [hdst, fill_same (m := lays D 0 (fun k => if k = i then v else vs k)) (lays_same fun k hk2 => by
            have : k ≠ i := fun e => by rw [e, hu] at hk2; cases hk2
            simp [this])]
          have hm2 := lays_mem (vs := fun k => if k = i then v else vs k) (i := 0) hd
          simp only [Nat.zero_add, if_true] at hm2
          exact fill_put (by omega) hu (lays_pw hk.nodup) hm2
        · by_cases e : k = i
          · subst e
            refine ⟨?_, ?_, fun o2 ho2 e he hb2 => ?_⟩
            · have := hv (fun m => if m = k then W.heap.size else ts m) (fun m => if m = k then W'.heap.size else te m) (fun m hm => by simp [hm]) (by simp) (by simp)
              simpa using this
            · simp
            · have e3 : o2 = o := by rw [ho'] at ho2; exact (Option.some.inj ho2).symm
              subst e3
              have h4 := hdep e he hb2
              by_cases q : e.on = k
              · rw [q] at h4; rw [hu] at h4; cases h4
              · rw [getD_set_ne false (Ne.symm q)]; exact h4
          · rw [getD_set_ne false (Ne.symm e)] at hk2
            simp only [e, if_false]
            obtain ⟨p1, p2, p3⟩ := hP k hk2
            refine ⟨hkeep _ _ _ _ _ _ _ _ (fun m hm => ?_) p1 hb, Nat.le_trans p2 hb.size, fun o2 ho2 e2 he2 hb2 => ?_⟩
            · have : m ≠ i := by
                rcases hm with rfl | ⟨o2, ho2, e2, he2, hb2, rfl⟩
                · exact e
                · intro q
                  have h4 := p3 o2 ho2 e2 he2 hb2
                  rw [q, hu] at h4
                  cases h4
              simp [this]
            · have h4 := p3 o2 ho2 e2 he2 hb2
              by_cases q : e2.on = i
              · rw [q, hu] at h4; cases h4
              · rw [getD_set_ne false (Ne.symm q)]; exact h4
        · by_cases e : k = i
          · have e2 : m ≠ i := fun q => hne (e.trans q.symm)
            rw [getD_set_ne false (Ne.symm e2)] at hm2
            simp only [e, e2, if_true, if_false]
            exact Or.inr (hP m hm2).2.1
          · rw [getD_set_ne false (Ne.symm e)] at hk2
            by_cases e2 : m = i
            · simp only [e, e2, if_true, if_false]
              exact Or.inl (hP k hk2).2.1
            · rw [getD_set_ne false (Ne.symm e2)] at hm2
              simp only [e, e2, if_false]
              exact hD k m hk2 hm2 hne
    · rintro ls b W ⟨vs, ts, te, rfl, hB, hP, hD⟩ hall
      have hall' : ∀ k, k < L.length → ls.getD k false = true := fun k hk2 => hall k (by simpa using hk2)
      rw [fill_putD (fun k hk2 => hall' k (by rw [hk.len]; omega))]
      have hh := hend vs ts te W hB (fun i hi => (hP i (hall' i hi)).1) fun i j hi hj => hD i j (hall' i hi) (hall' j hj)
      have hg1 : s1.guard = none := hk1.guard
      have hg2 : s2.guard = none := hk2.guard
      have e1 : s1.wp P (putD a D 0 vs) W (fun a' w' => wpList P (L ++ [s1] ++ [s2]).toArray Q [s2] a' w') Q ∨ s1.asks P (putD a D 0 vs) W ∧ LetsOut Q := by simpa [wpList, Region.wanted, hg1] using hh
      show F _ _
      rw [hF]
      unfold wpOp
      rw [at_last]
      simp only [Region.wanted, hg1, if_true]
      rcases e1 with e1 | e1
      case inr => exact Or.inr ⟨e1.1, e1.2⟩
      refine Or.inl (wp_imp (fun a' w' h2 => ?_) (fun _ _ _ h => h) (fun h => h) e1)
      show G a' w'
      rw [hG]
      unfold wpOp
      rw [at_last]
      simpa [wpList] using h2
  refine wp_region_any hm ?_
  have hz2 := wpAny_lastC hk1 (F := F) (Q := Exit.then G Q) (fun a' w' hh => by rw [hF] at hh; exact hh) L.length (Array.replicate L.length false) a w.drew (by simp) (fun i o ho h => absurd h (by rw [getD_none]; simp)) hz
  have hz3 := wpAny_last hk2 (F := G) (fun a' w' hh => by rw [hG] at hh; exact hh) (L.length + 1) ((Array.replicate L.length false).push false) a w.drew (by simp) hz2
  have e : (Array.replicate (L ++ [s1] ++ [s2]).toArray.size false) = ((Array.replicate L.length false).push false).push false := by simp [Array.replicate_succ]
  rw [e]
  simpa using hz3
end
end Go.Proofs.Ytclnmikneomccaa
