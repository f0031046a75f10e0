/- A region that draws its order, by an invariant: one obligation an operation, whatever the order. -/
import Derived.Test.YtbcidfmfkmeinaaVr
import Derived.OrdersHeld
namespace Go.Proofs.Ytbcidfmfkmeinaa
open Go.RowKit
section
variable {P : Program} {ops : Array Oper} {Q : Exit → Act → World → Prop}
theorem getD_in9 {listed : Array Bool} {i : Nat} (hi : i < listed.size) (h : listed.getD i false = false) : listed.getD i true = false := by
  simp [hi] at h ⊢; exact h
theorem all_of_ready {listed : Array Bool} (hs : listed.size = ops.size) (hb : ∀ (i : Nat) (o : Oper), ops[i]? = some o → ∀ e ∈ o.after, e.on < i) (h : Region.ready .any ops listed = []) : ∀ i, i < ops.size → listed.getD i false = true := by
  intro i
  induction i using Nat.strongRecOn with
  | _ i ih =>
    intro hi
    cases hl : listed.getD i false with
    | true => rfl
    | false =>
      exfalso
      have hm : i ∈ Region.ready .any ops listed := by
        refine mem_ready.2 ⟨getD_in9 (by omega) hl, ops[i], by simp [hi], fun e he _ => ?_⟩
        have h1 := hb i ops[i] (by simp [hi]) e he
        exact ih e.on h1 (by omega)
      rw [h] at hm
      cases hm
theorem count_set {listed : Array Bool} {i : Nat} (hi : i < listed.size) (h : listed.getD i true = false) : (listed.setIfInBounds i true).toList.count false + 1 = listed.toList.count false := by
  have h1 : listed[i] = false := by simpa [hi] using h
  have h2 : listed.toList[i]'(by simpa using hi) = false := by simpa using h1
  have h3 : 0 < listed.toList.count false := List.count_pos_iff.2 (List.mem_of_getElem h2)
  rw [Array.toList_setIfInBounds, List.count_set (by simpa using hi), h2]
  rw [if_pos (by rfl), if_neg (by decide)]
  omega
theorem wpAny_inv {Inv : Array Bool → Act → World → Prop} (hb : ∀ (i : Nat) (o : Oper), ops[i]? = some o → ∀ e ∈ o.after, e.on < i)
    (hstep : ∀ listed a w i, listed.size = ops.size → Inv listed a w → i ∈ Region.ready .any ops listed → wpOp P ops Q i (Inv (listed.setIfInBounds i true)) a w)
    (hend : ∀ listed a w, Inv listed a w → (∀ i, i < ops.size → listed.getD i false = true) → Q .normal a w) :
    ∀ fuel listed a w, listed.size = ops.size → Inv listed a w → listed.toList.count false ≤ fuel → wpAny P .any ops Q fuel listed a w
  | 0, listed, a, w, hs, hI, hf => by
    have hr : Region.ready .any ops listed = [] := by
      rw [List.eq_nil_iff_forall_not_mem]
      intro i hi
      obtain ⟨h1, oi, hoi, _⟩ := mem_ready.1 hi
      have hlt : i < listed.size := by rw [hs]; exact (Array.getElem?_eq_some_iff.1 hoi).1
      have := count_set hlt h1
      omega
    exact ⟨hr, hend listed a w hI (all_of_ready hs hb hr)⟩
  | fuel + 1, listed, a, w, hs, hI, hf => by
    refine ⟨fun hr => hend listed a w hI (all_of_ready hs hb hr), fun i hi => ?_⟩
    obtain ⟨h1, oi, hoi, _⟩ := mem_ready.1 hi
    have hlt : i < listed.size := by rw [hs]; exact (Array.getElem?_eq_some_iff.1 hoi).1
    have hc := count_set hlt h1
    exact wpOp_mono (fun a' w' h => wpAny_inv hb hstep hend fuel _ a' w' (by simp [hs]) h (by omega)) (hstep listed a w i hs hI hi)
theorem wp_region_inv {id : Nat} {a : Act} {w : World} (hm : P.follows .mixedOrders = true) (Inv : Array Bool → Act → World → Prop) (hb : ∀ (i : Nat) (o : Oper), ops[i]? = some o → ∀ e ∈ o.after, e.on < i)
    (hstart : Inv (Array.replicate ops.size false) a w.drew)
    (hstep : ∀ listed a w i, listed.size = ops.size → Inv listed a w → i ∈ Region.ready .any ops listed → wpOp P ops Q i (Inv (listed.setIfInBounds i true)) a w)
    (hend : ∀ listed a w, Inv listed a w → (∀ i, i < ops.size → listed.getD i false = true) → Q .normal a w) : (Code.region id ops true).wp P Q a w :=
  wp_region_any hm (wpAny_inv hb hstep hend ops.size _ a _ (by simp) hstart (by simp))
end
end Go.Proofs.Ytbcidfmfkmeinaa
