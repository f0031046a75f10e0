/- Lists of cells that a call builds; a cell that is made; the first row with a pivot: contracts. -/
import Derived.Test.YtboppklcmdfphaaGc
import Derived.Laws.AppendOwnNone
namespace Go.Proofs.Ytboppklcmdfphaa
open Go.RowKit
set_option linter.unusedVariables false
set_option linter.unusedSimpArgs false
/-- The cells of a list, one behind another. -/
def cellsL (N : List Ce) : List Value := N.flatMap fun g => [Value.int .i64 g.i, Value.int .i64 g.j, Value.int .i64 g.a, Value.int .i64 g.b, Value.int .i64 g.c, Value.int .i64 g.d]
theorem cellsL_nil : cellsL [] = [] := rfl
theorem cellsL_app (N M : List Ce) : cellsL (N ++ M) = cellsL N ++ cellsL M := List.flatMap_append
theorem cellsL_one (g : Ce) : cellsL [g] = [Value.int .i64 g.i, Value.int .i64 g.j, Value.int .i64 g.a, Value.int .i64 g.b, Value.int .i64 g.c, Value.int .i64 g.d] := rfl
theorem cellsL_len : ∀ N : List Ce, (cellsL N).length = N.length * 6
  | [] => rfl
  | g :: N => by
    show ([Value.int .i64 g.i, Value.int .i64 g.j, Value.int .i64 g.a, Value.int .i64 g.b, Value.int .i64 g.c, Value.int .i64 g.d] ++ cellsL N).length = _
    rw [List.length_append, cellsL_len N]
    simp
    omega
theorem cellsL_at : ∀ (N : List Ce) (i j : Nat), i < N.length → j < 6 → (cellsL N)[i * 6 + j]? = some (ccell (N.getD i Rm.nilC) j)
  | [], i, _, hi, _ => absurd hi (Nat.not_lt_zero _)
  | g :: N, 0, j, _, hj => by
    show ([Value.int .i64 g.i, Value.int .i64 g.j, Value.int .i64 g.a, Value.int .i64 g.b, Value.int .i64 g.c, Value.int .i64 g.d] ++ cellsL N)[0 * 6 + j]? = _
    match j, hj with
    | 0, _ => rfl
    | 1, _ => rfl
    | 2, _ => rfl
    | 3, _ => rfl
    | 4, _ => rfl
    | 5, _ => rfl
  | g :: N, i + 1, j, hi, hj => by
    show ([Value.int .i64 g.i, Value.int .i64 g.j, Value.int .i64 g.a, Value.int .i64 g.b, Value.int .i64 g.c, Value.int .i64 g.d] ++ cellsL N)[(i + 1) * 6 + j]? = _
    rw [List.getElem?_append_right (by simp; omega)]
    have := cellsL_at N i j (by simpa using hi) hj
    simp only [List.length_cons, List.length_nil, List.getD_cons_succ]
    rw [show (i + 1) * 6 + j - (0 + 1 + 1 + 1 + 1 + 1 + 1) = i * 6 + j by omega]
    exact this
theorem cellsL_cell (N : List Ce) : ∀ u ∈ cellsL N, u.oneCell' = true := by
  intro u hu
  unfold cellsL at hu
  rw [List.mem_flatMap] at hu
  obtain ⟨g, _, hu⟩ := hu
  simp only [List.mem_cons, List.not_mem_nil, or_false] at hu
  rcases hu with rfl | rfl | rfl | rfl | rfl | rfl <;> rfl
theorem infoCell : (Try.prog.info? 77).map (fun i => (i.zero, i.size, i.bytes)) = some (some (.agg #[.int .i64 0, .int .i64 0, .int .i64 0, .int .i64 0, .int .i64 0, .int .i64 0]), 6, 48) := infoCe
/-- A list of cells that a call has built. -/
def OwL (base : Nat) (W : World) (v : Value) (N : List Ce) : Prop := W.ownsRow base 77 6 v N.length (cellsL N)
theorem OwL.later {base : Nat} {W W' : World} {v : Value} {N : List Ce} (h : OwL base W v N) (hb : Below W.heap.size W W') : OwL base W' v N := ownsV_later h hb
theorem OwL.nil (base : Nat) (W : World) : OwL base W (.slice none 0 0) [] := ownsV_nil W base 77 6
/-- What was built, read off its block. -/
theorem OwL.seg {base : Nat} {W : World} {v : Value} {N : List Ce} (h : OwL base W v N) : (v = .slice none 0 0 ∧ N = []) ∨ ∃ g cap, v = .slice (some ⟨g, 0, none⟩) N.length cap ∧ base ≤ g ∧ SegV W g 77 N.length 6 (fun i j => ccell (N.getD i Rm.nilC) j) := by
  obtain ⟨_, h | ⟨g, cap, cur, hv, hg, hh, h1, h2, h3, h4⟩⟩ := h
  · exact Or.inl ⟨h.1, List.eq_nil_of_length_eq_zero h.2⟩
  · refine Or.inr ⟨g, cap, hv, hg, cur, hh, fun i hi j hj => ?_⟩
    have hl : i * 6 + j < N.length * 6 := idx_lt hj hi
    rw [← cellsL_at N i j hi hj, ← h4, List.getElem?_take_of_lt hl, ← Array.getElem?_toList]
/-- The block that is appended to is of the row's type. -/
theorem OwL.ne {base : Nat} {W : World} {v : Value} {N : List Ce} (h : OwL base W v N) {b : Nat} {c : Array Value} {t' : TypeId} (hs : W.heap[b]? = some (.cells c t' (0, 0))) (ht : 77 ≠ t') : ∀ g, v.ownBlock = some g → g ≠ b := by
  intro g hg e
  subst e
  obtain ⟨_, ⟨rfl, _⟩ | ⟨g', cap, cur, rfl, _, hh, _⟩⟩ := h
  · simp [Value.ownBlock] at hg
  · simp [Value.ownBlock] at hg
    subst hg
    rw [hh] at hs
    simp at hs
    exact ht hs.2
/-- 'append(list, cell)'. -/
theorem pushC {ops : Array Oper} {rest : List Oper} {o : Oper} {a : Act} {Q : Exit → Act → World → Prop} (hgd : o.guard = none) (s x : Operand)
    (ho : o.op = .call { callee := .builtin .append, args := #[s, x], argTypes := #[47, 47] }) (w : World) (g : Ce) (base : Nat) (v : Value) (N : List Ce) (hs : a.eval s = v) (hown : OwL base w v N) (hx : a.eval x = .slice (some ⟨w.heap.size, 0, none⟩) 1 1) (hn : N.length ≤ 1000000) (hbase : base ≤ w.heap.size)
    (h : ∀ v' w', OwL base w' v' (N ++ [g]) → (w.alloc (.cells #[Value.int .i64 g.i, Value.int .i64 g.j, Value.int .i64 g.a, Value.int .i64 g.b, Value.int .i64 g.c, Value.int .i64 g.d] 77)).grownBy w' v.ownBlock → v' ≠ .slice none 0 0 → wpList Try.prog ops Q rest (a.put o.dst v') w') : wpList Try.prog ops Q (o :: rest) a (w.alloc (.cells #[Value.int .i64 g.i, Value.int .i64 g.j, Value.int .i64 g.a, Value.int .i64 g.b, Value.int .i64 g.c, Value.int .i64 g.d] 77)) :=
  pushV hgd s x 47 ho 77 _ 6 48 Try.underlying47 infoCell rfl (by decide) (by decide) w [Value.int .i64 g.i, Value.int .i64 g.j, Value.int .i64 g.a, Value.int .i64 g.b, Value.int .i64 g.c, Value.int .i64 g.d] rfl (fun u hu => cellsL_cell [g] u (by rw [cellsL_one]; exact hu)) base v N.length (cellsL N) hs hown 1 hx (by omega) hbase fun v' w' h1 h2 h3 => h v' w' (by
    unfold OwL
    rw [List.length_append, cellsL_app, cellsL_one]
    exact h1) h2 h3
/-- 'append(list, more...)', more being nil, or a row of cells that is read. -/
theorem appC {ops : Array Oper} {rest : List Oper} {o : Oper} {a : Act} {Q : Exit → Act → World → Prop} (hgd : o.guard = none) (s x : Operand)
    (ho : o.op = .call { callee := .builtin .append, args := #[s, x], argTypes := #[47, 47] }) (w : World) (base : Nat) (v : Value) (N M : List Ce) (hs : a.eval s = v) (hown : OwL base w v N) (b2 : Nat) (v2 : Value) (hM : OwL b2 w v2 M) (hx : a.eval x = v2) (hn : N.length + M.length ≤ 1000000) (hbase : base ≤ w.heap.size)
    (h : ∀ v' w', OwL base w' v' (N ++ M) → w.grownBy w' v.ownBlock → wpList Try.prog ops Q rest (a.put o.dst v') w') : wpList Try.prog ops Q (o :: rest) a w := by
  obtain ⟨i, h1, h2, h3, h4⟩ := infoV_parts infoCell
  rcases hM.seg with ⟨rfl, rfl⟩ | ⟨g, cap, rfl, _, hsg⟩
  · refine wpList_append_own_none hgd s x 47 ho base 77 i 6 Try.underlying47 h1 v N.length (cellsL N) hs hown hx ?_
    refine h v w ?_ (World.grownBy.refl _ _)
    rw [List.append_nil]
    exact hown
  · refine wpList_append_own _ hgd s x 47 ho base 77 i _ 6 48 Try.underlying47 h1 h2 h3 h4 rfl (by decide) v N.length (cellsL N) hs hown ⟨g, 0, none⟩ M.length cap (cellsL M) hx (cellsL_len M) ?_ (cellsL_cell M) ?_ ?_ hbase fun v' w' a1 a2 _ => h v' w' (by
      unfold OwL
      rw [List.length_append, cellsL_app]
      exact a1) a2
    · intro j u hj
      have e0 : (⟨g, 0, none⟩ : Addr).add j = ⟨g, j, none⟩ := by
        unfold Addr.add
        split
        · rename_i h; subst h; rfl
        · simp
      rw [e0]
      have hl := (List.getElem?_eq_some_iff.1 hj).1
      rw [cellsL_len] at hl
      have e1 : j = j / 6 * 6 + j % 6 := by omega
      have := hsg.cell (i := j / 6) (j := j % 6) (by omega) (by omega)
      rw [← e1] at this
      rw [this]
      have e2 := cellsL_at M (j / 6) (j % 6) (by omega) (by omega)
      rw [← e1, hj] at e2
      exact e2.symm
    · unfold maxLen; omega
    · omega
set_option maxRecDepth 20000 in
set_option maxHeartbeats 1600000 in
theorem swap_any (I J : Int) (w : World) : Calls Try.prog 89 #[.int .i64 I, .int .i64 J] w fun e w' => e = .returned (.agg #[.int .i64 I, .int .i64 J, .int .i64 0, .int .i64 1, .int .i64 1, .int .i64 0]) ∧ Below w.heap.size w w' := by
  go_enter Try.func89, Try.ntmps89
  go_wp2
  refine bodyPost_ret (v := .agg #[.int .i64 I, .int .i64 J, .int .i64 0, .int .i64 1, .int .i64 1, .int .i64 0]) (by simp [results, Try.results89, go_sem]) rfl ⟨rfl, ?_⟩
  go_grown
set_option maxRecDepth 20000 in
set_option maxHeartbeats 1600000 in
theorem leak_any (I J f : Int) (w : World) : Calls Try.prog 112 #[.int .i64 I, .int .i64 J, .int .i64 f] w fun e w' => e = .returned (.agg #[.int .i64 I, .int .i64 J, .int .i64 1, .int .i64 0, .int .i64 f, .int .i64 1]) ∧ Below w.heap.size w w' := by
  go_enter Try.func112, Try.ntmps112
  go_wp2
  refine bodyPost_ret (v := .agg #[.int .i64 I, .int .i64 J, .int .i64 1, .int .i64 0, .int .i64 f, .int .i64 1]) (by simp [results, Try.results112, go_sem]) rfl ⟨rfl, ?_⟩
  go_grown
set_option maxHeartbeats 800000 in
/-- pivotAt. -/
theorem pivotG_any {lo hi : Nat} {m : Lie} {n wd c : Nat} {F : Rm.Mx} {w : World} (hM : Gm lo hi w m n (fun _ => wd) F) (hn : n ≤ 1000000) (hc : c < n) (hcw : c < wd) (hwd : wd ≤ 1000000) :
    Calls Try.prog 82 #[.slice (some ⟨m.b, 0, none⟩) n m.cap, .int .i64 c] w fun e w' => e = .returned (.int .i64 (Rm.pv F c (n - c))) ∧ w = w' := by
  have HM : Hid (Gm lo hi w m n (fun _ => wd) F) := hM
  clear hM
  go_enter Try.func82, Try.ntmps82
  go_wp2_with fail
  go_loopw [5] (fun i wr => wr = w ∧ ∃ k : Nat, c + k ≤ n ∧ i = .int .i64 ((c : Int) + k) ∧ Hid (Rm.pv F c k < 0)) (fun i _ => n - (intOf i).toNat)
  case atStart => exact ⟨rfl, 0, by omega, by simp, show Rm.pv F c 0 < 0 by simp [Rm.pv]⟩
  case round =>
    obtain ⟨rfl, k, hk, rfl, hp⟩ := hrel
    by_cases hkn : c + k < n
    · obtain ⟨i, hi⟩ : ∃ i : Nat, i = c + k := ⟨_, rfl⟩
      have e1 : (c : Int) + (k : Int) = (i : Int) := by omega
      have hin : i < n := by omega
      have g1 : wr.cell? ⟨m.b, i, none⟩ = some (.slice (some ⟨m.bs i, m.os i, none⟩) wd (m.cs i)) := HM.out.cellRow hin
      have g2 : wr.cell? ⟨m.bs i, m.os i + c, none⟩ = some (.int .i64 (F i c)) := HM.out.cellAt hin hcw
      have HI : Hid (i = c + k) := hi
      clear hi
      by_cases hz : F i c = 0
      · have hz1 : (F i c != 0) = false := by rw [hz]; rfl
        have HZ : Hid (F i c = 0) := hz
        clear hz
        go_wp2
        exact ⟨⟨by trivial, k + 1, by have := HI.out; omega, by have := HI.out; simp; omega, show Rm.pv F c (k + 1) < 0 by
          have h1 := HI.out
          rw [Rm.pv, if_neg (by have := hp.out; omega), ← h1, if_pos HZ.out]
          omega⟩, by have := HI.out; simp [intOf]; omega⟩
      · have hz1 : (F i c != 0) = true := by rw [bne_iff_ne]; exact hz
        have HZ : Hid (F i c ≠ 0) := hz
        clear hz
        go_wp2
        go_ret
        refine ⟨ret_int ?_, rfl⟩
        have h1 := HI.out
        have h2 : Rm.pv F c (k + 1) = (c : Int) + k := by
          rw [Rm.pv, if_neg (by have := hp.out; omega), ← h1, if_neg HZ.out]
        rw [Rm.pv_stay' F c (k + 1) (n - c) (by omega) (by omega), h2]
    · have HN : Hid (n - c = k) := show n - c = k by omega
      have e1 : (c : Int) + (k : Int) = (n : Int) := by omega
      go_wp2
      go_ret
      refine ⟨ret_int ?_, rfl⟩
      have := hp.out
      have h2 := Rm.pv_lo F c k
      rw [HN.out]
      omega
end Go.Proofs.Ytboppklcmdfphaa
