/- A list of flaws behind another: append. -/
import Derived.Test.YtclnmikneomccaaFp
namespace Go.Proofs.Ytclnmikneomccaa
open Go.RowKit
set_option linter.unusedVariables false
set_option linter.unusedSimpArgs false
theorem run_nilsrc {w : World} {base : Option Addr} {n c : Nat} {ty : TypeId} (h : n ≤ c) (hb : base = none → n = 0) : (Builtin.append_ #[43, 43] ty #[.slice base n c, .slice none 0 0]).run Try.prog w = .ok (.slice base n c) w := by
  obtain ⟨i, h1, h2, h3, h4⟩ := infoV_parts Fw.infoE
  cases base with
  | none => simp [Builtin.append_, run_underlying Try.underlying43, sizeOf, typeInfo, h1, Builtin.lenOf, Builtin.firstCells, h]
  | some a => simp [Builtin.append_, run_underlying Try.underlying43, sizeOf, typeInfo, h1, Builtin.lenOf, Builtin.firstCells, h, storeCells]
theorem pushFw {ops : Array Oper} {rest : List Oper} {o : Oper} {a : Act} {Q : Exit → Act → World → Prop} (hgd : o.guard = none) (s x : Operand)
    (ho : o.op = .call { callee := .builtin .append, args := #[s, x], argTypes := #[43, 43] }) (w : World) (lo lo2 : Nat) (v v2 : Value) (L M : List Fw.G) (hs : a.eval s = v) (hown : Wl w lo v L) (hx : a.eval x = v2) (h2 : Wl w lo2 v2 M) (hk : L.length ≤ 1000000) (hn : M.length ≤ 1000000) (hbase : lo ≤ w.heap.size)
    (h : ∀ v' w', Wl w' lo v' (L ++ M) → Below lo w w' → wpList Try.prog ops Q rest (a.put o.dst v') w') :
    wpList Try.prog ops Q (o :: rest) a w := by
  obtain ⟨i, h1, h2i, h3, h4⟩ := infoV_parts Fw.infoE
  obtain ⟨hl0, ⟨rfl, hz⟩ | ⟨g, cap, cur, hv, hg, hh, hc1, hc2, hc3, hc4⟩⟩ := h2
  · have hM : M = [] := List.length_eq_zero_iff.1 hz
    subst hM
    obtain ⟨vo, vcap, ev⟩ := hown.form
    subst ev
    have hroom : L.length ≤ vcap ∧ (vo = none → L.length = 0) := by
      obtain ⟨_, ⟨e, e2⟩ | ⟨g, cp, cur, e, _, _, q1, _⟩⟩ := hown
      · simp only [Value.slice.injEq] at e
        exact ⟨by omega, fun _ => e2⟩
      · simp only [Value.slice.injEq] at e
        refine ⟨by omega, fun e3 => ?_⟩
        rw [e3] at e
        simp at e
    have hr := run_nilsrc (w := w) (ty := o.type) hroom.1 hroom.2
    refine wpList_plain hgd fun K hK => ?_
    unfold Oper.wp execOp
    simp only [ho, resolve, invoke, builtin, Sem.run_bind, Sem.run_pure, Result.andThen_ok, List.map_toArray, List.map_cons, List.map_nil, hs, hx, hr]
    exact hK _ _ (h _ _ (by rw [List.append_nil]; exact hown) (Below.refl _ _))
  · subst hv
    refine wpList_append_own_at w hgd s x 43 ho lo 81 i _ 3 24 Try.underlying43 h1 h2i h3 h4 rfl (by decide) v L.length (flaws L) hs hown ⟨g, 0, none⟩ M.length cap (flaws M) hx (flaws_len M) (fun j u hj => ?_) (fun u hu => ?_) (by unfold maxLen; omega) (by omega) hbase ?_
    · have e0 : (⟨g, 0, none⟩ : Addr).add j = ⟨g, j, none⟩ := by
        unfold Addr.add
        split
        · rename_i h; subst h; rfl
        · simp
      rw [e0]
      have hjl := (List.getElem?_eq_some_iff.1 hj).1
      rw [flaws_len] at hjl
      rw [← hc4, List.getElem?_take_of_lt hjl] at hj
      unfold World.cell?
      rw [hh]
      show cur[j]? = some u
      rw [← Array.getElem?_toList]
      exact hj
    · obtain ⟨q, _, hq⟩ := List.mem_flatMap.1 hu
      simp [Fw.spl] at hq
      rcases hq with rfl | rfl | rfl <;> rfl
    · intro v' w' r1 r2 _ _
      refine h v' w' ?_ ((Below.refl lo w).grown r2 hbase fun b hb => (hown.lt b hb).1)
      show w'.ownsRow lo 81 3 v' (L ++ M).length (flaws (L ++ M))
      rw [flaws_app, List.length_append]
      exact r1
end Go.Proofs.Ytclnmikneomccaa
