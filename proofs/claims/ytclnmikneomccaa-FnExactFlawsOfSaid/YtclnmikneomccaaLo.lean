/- Lists of numbers of their own, built by append; chains' answers: compared, marked, held. -/
import Derived.Test.YtclnmikneomccaaAp
import Derived.Test.YtclnmikneomccaaRw
import Derived.Maps.AppendAt
import Derived.Test.YtclnmikneomccaaLa
namespace Go.Proofs.Ytclnmikneomccaa
open Go.RowKit
set_option linter.unusedVariables false
set_option linter.unusedSimpArgs false
def ints (xs : List Int) : List Value := xs.map fun x => .int .i64 x
theorem ints_len (xs : List Int) : (ints xs).length = xs.length := by simp [ints]
theorem ints_snoc (xs : List Int) (x : Int) : ints (xs ++ [x]) = ints xs ++ [.int .i64 x] := by simp [ints]
theorem ints_at (xs : List Int) (i : Nat) (h : i < xs.length) : (ints xs)[i]? = some (.int .i64 (xs.getD i 0)) := by
  unfold ints
  rw [List.getElem?_map, List.getElem?_eq_getElem h]
  simp [List.getD, h]
/-- A list of numbers that lies in memory of its own, from lo on. -/
def Ol (w : World) (lo : Nat) (v : Value) (xs : List Int) : Prop := w.ownsRow lo 2 1 v xs.length (ints xs)
theorem Ol.form {w : World} {lo : Nat} {v : Value} {xs : List Int} (h : Ol w lo v xs) : ∃ ao cap, v = .slice ao xs.length cap ∧ xs.length ≤ cap := by
  obtain ⟨_, h1 | ⟨g, cap, cur, hv, hg, hh, h1, h2, h3, h4⟩⟩ := h
  · rw [h1.2]; exact ⟨_, _, h1.1, Nat.le_refl _⟩
  · exact ⟨_, _, hv, by omega⟩
theorem Ol.rd {w : World} {lo : Nat} {v : Value} {xs : List Int} (h : Ol w lo v xs) : RdRow w v xs.length (fun i => xs.getD i 0) := by
  obtain ⟨_, h1 | ⟨g, cap, cur, hv, hg, hh, h1, h2, h3, h4⟩⟩ := h
  · exact Or.inl ⟨none, 0, h1.1, h1.2⟩
  · refine Or.inr ⟨g, 0, cap, hv, fun i hi => ?_⟩
    have e : (cur.toList.take (xs.length * 1))[i]? = (ints xs)[i]? := by rw [h4]
    rw [List.getElem?_take_of_lt (by omega), ints_at xs i hi] at e
    unfold World.cell?
    rw [hh]
    simp only [Nat.zero_add]
    rw [← Array.getElem?_toList]
    exact e
theorem Ol.later {w w' : World} {lo : Nat} {v : Value} {xs : List Int} (h : Ol w lo v xs) (hb : Below w.heap.size w w') : Ol w' lo v xs := ownsV_later h hb
theorem Ol.low {w : World} {lo lo' : Nat} {v : Value} {xs : List Int} (h : Ol w lo v xs) (hl : lo' ≤ lo) : Ol w lo' v xs := by
  obtain ⟨h0, h1 | ⟨g, cap, cur, hv, hg, r⟩⟩ := h
  · exact ⟨h0, Or.inl h1⟩
  · exact ⟨h0, Or.inr ⟨g, cap, cur, hv, Nat.le_trans hl hg, r⟩⟩
theorem Ol.keepOn {w w' : World} {lo : Nat} {v : Value} {xs : List Int} (h : Ol w lo v xs) (hk : ∀ k, v.ownBlock = some k → w'.heap[k]? = w.heap[k]?) : Ol w' lo v xs := by
  obtain ⟨h0, h1 | ⟨g, cap, cur, hv, hg, hh, r⟩⟩ := h
  · exact ⟨h0, Or.inl h1⟩
  · exact ⟨h0, Or.inr ⟨g, cap, cur, hv, hg, (hk g (by rw [hv]; rfl)).trans hh, r⟩⟩
theorem Ol.one (w : World) (x : Int) : Ol (w.alloc (.cells #[.int .i64 x] 2)) w.heap.size (.slice (some ⟨w.heap.size, 0, none⟩) 1 1) [x] := owns_one w 2 (.int .i64 x)
theorem Ol.pop {w : World} {lo cap : Nat} {ao : Option Addr} {xs : List Int} {x : Int} (h : Ol w lo (.slice ao (xs.length + 1) cap) (xs ++ [x])) : Ol w lo (.slice ao xs.length cap) xs := by
  obtain ⟨h0, h1 | ⟨g, c, cur, hv, hg, hh, h1, h2, h3, h4⟩⟩ := h
  · have := h1.2; simp at this
  · simp only [Value.slice.injEq] at hv
    obtain ⟨rfl, _, rfl⟩ := hv
    have hl : (xs ++ [x]).length = xs.length + 1 := by simp
    refine ⟨by rw [ints_len]; omega, Or.inr ⟨g, cap, cur, rfl, hg, hh, by omega, h2, h3, ?_⟩⟩
    have : cur.toList.take (xs.length * 1) = (cur.toList.take ((xs ++ [x]).length * 1)).take (xs.length * 1) := by rw [List.take_take, hl]; congr 1; omega
    rw [this, h4, ints_snoc]
    rw [List.take_append_of_le_length (by rw [ints_len]; omega)]
    rw [List.take_of_length_le (by rw [ints_len]; omega)]
theorem Ol.blkNe {w : World} {lo b : Nat} {v : Value} {xs : List Int} {cs : Array Value} {t : TypeId} (h : Ol w lo v xs) (hb : Blk w b cs t) (ht : t ≠ 2) : ∀ g, v.ownBlock = some g → g ≠ b := by
  intro g hg
  obtain ⟨_, ⟨rfl, _⟩ | ⟨g', cap, cur, rfl, _, hh, _⟩⟩ := h
  · simp [Value.ownBlock] at hg
  · simp [Value.ownBlock] at hg
    subst hg
    rintro rfl
    unfold Blk at hb
    rw [hh] at hb
    simp at hb
    exact ht hb.2.symm
/-- 'append(row, x)', the place of the new row told. -/
theorem pushL {ops : Array Oper} {rest : List Oper} {o : Oper} {a : Act} {Q : Exit → Act → World → Prop} (hgd : o.guard = none) (s x : Operand)
    (ho : o.op = .call { callee := .builtin .append, args := #[s, x], argTypes := #[29, 29] }) (w : World) (u : Int) (lo : Nat) (v : Value) (xs : List Int) (hs : a.eval s = v) (hown : Ol w lo v xs) (c : Nat) (hx : a.eval x = .slice (some ⟨w.heap.size, 0, none⟩) 1 c) (hn : xs.length ≤ 2000000) (hbase : lo ≤ w.heap.size)
    (h : ∀ ao cap w', Ol w' lo (.slice ao (xs.length + 1) cap) (xs ++ [u]) → (w.alloc (.cells #[.int .i64 u] 2)).grownBy w' v.ownBlock → ((Value.slice ao (xs.length + 1) cap).ownBlock = v.ownBlock ∨ (Value.slice ao (xs.length + 1) cap).ownBlock = some (w.heap.size + 1)) → wpList Try.prog ops Q rest (a.put o.dst (.slice ao (xs.length + 1) cap)) w') :
    wpList Try.prog ops Q (o :: rest) a (w.alloc (.cells #[.int .i64 u] 2)) := by
  obtain ⟨i, h1, h2, h3, h4⟩ := info_parts info2
  refine wpList_append_own_at _ hgd s x 29 ho lo 2 i (.int .i64 0) 1 8 Try.underlying29 h1 h2 h3 h4 rfl (by decide) v xs.length (ints xs) hs (hown.alloc _) ⟨w.heap.size, 0, none⟩ 1 c [.int .i64 u] hx rfl (cell_one_new w (.int .i64 u) 2) (by intro y hy; simp at hy; subst hy; rfl) (by unfold maxLen; omega) (by omega) (by simp; omega) ?_
  intro v' w' r1 r2 _ r4
  have e : Ol w' lo v' (xs ++ [u]) := by show w'.ownsRow lo 2 1 v' (xs ++ [u]).length (ints (xs ++ [u])); rw [ints_snoc, List.length_append]; exact r1
  obtain ⟨ao, cap, rfl, _⟩ := e.form
  have hl : (xs ++ [u]).length = xs.length + 1 := by simp
  rw [hl] at e r4 ⊢
  refine h ao cap w' e r2 ?_
  rcases r4 with q | q
  · exact Or.inl q
  · exact Or.inr (by rw [q]; simp)
/-- 'append(row, x)' as one step of a region that draws its order; the place of the new row is told, too. -/
theorem step_pushAt {ops : Array Oper} {o : Oper} {a : Act} {K : Act → World → Prop} {Q : Exit → Act → World → Prop} {E : Prop} (hg : o.guard = none) (s x : Operand) (t : TypeId)
    (hop : o.op = Op.call { callee := Callee.builtin Builtin.append, args := #[s, x], argTypes := #[t, t] }) (ht : Try.prog.underlying t = some (.slice 2)) {W : World} (w : World) (u : Int) (hW : W = w.alloc (.cells #[.int .i64 u] 2))
    (lo : Nat) (v : Value) (xs : List Int) (hs : a.eval s = v) (hown : Ol w lo v xs) (c : Nat) (hx : a.eval x = .slice (some ⟨w.heap.size, 0, none⟩) 1 c) (hn : xs.length ≤ 2000000) (hbase : lo ≤ w.heap.size)
    (hK : ∀ ao cap w', Ol w' lo (.slice ao (xs.length + 1) cap) (xs ++ [u]) → (w.alloc (.cells #[.int .i64 u] 2)).grownBy w' v.ownBlock → ((Value.slice ao (xs.length + 1) cap).ownBlock = v.ownBlock ∨ (Value.slice ao (xs.length + 1) cap).ownBlock = some (w.heap.size + 1)) → K (a.put o.dst (.slice ao (xs.length + 1) cap)) w') :
    if Region.wanted o (yielded ops a.tmps) = true then Oper.wp Try.prog o a W K Q else E := by
  subst hW
  have hw : Region.wanted o (yielded ops a.tmps) = true := by simp [Region.wanted, hg]
  rw [if_pos hw]
  obtain ⟨i, h1, h2, h3, h4⟩ := info_parts info2
  obtain ⟨v', w', hrun, r1, r2, _, r4⟩ := run_append_own_at (P := Try.prog) (w.alloc (.cells #[.int .i64 u] 2)) lo t o.type 2 i (.int .i64 0) 1 8 ht h1 h2 h3 h4 rfl (by decide) v xs.length (ints xs) (hown.alloc _) ⟨w.heap.size, 0, none⟩ 1 c [.int .i64 u] rfl (cell_one_new w (.int .i64 u) 2)
    (by intro y hy; simp at hy; subst hy; rfl) (by unfold maxLen; omega) (by omega) (by simp; omega)
  have e : Ol w' lo v' (xs ++ [u]) := by show w'.ownsRow lo 2 1 v' (xs ++ [u]).length (ints (xs ++ [u])); rw [ints_snoc, List.length_append]; exact r1
  obtain ⟨ao, cap, rfl, _⟩ := e.form
  unfold Oper.wp
  simp [execOp, hop, resolve, invoke, builtin, hs, hx, hrun, Result.andThen]
  have hl : (xs ++ [u]).length = xs.length + 1 := by simp
  rw [hl] at e r4 hrun
  refine hK ao cap w' e r2 ?_
  rcases r4 with h | h
  · exact Or.inl h
  · exact Or.inr (by rw [h]; simp)
/-- Two lists of their own, apart. -/
structure Ls2 (w : World) (lo : Nat) (vn vp : Value) (ns ps : List Int) : Prop where
  nl : Ol w lo vn ns
  pl : Ol w lo vp ps
  ap : ∀ g, vn.ownBlock = some g → vp.ownBlock ≠ some g
theorem Ls2.later {w w' : World} {lo : Nat} {vn vp : Value} {ns ps : List Int} (h : Ls2 w lo vn vp ns ps) (hb : Below w.heap.size w w') : Ls2 w' lo vn vp ns ps := ⟨h.nl.later hb, h.pl.later hb, h.ap⟩
theorem Ls2.pushN {w w4 : World} {lo c4 : Nat} {a4 : Option Addr} {vn vp : Value} {ns ps : List Int} {x : Int} (h : Ls2 w lo vn vp ns ps) (ho : Ol w4 lo (.slice a4 (ns.length + 1) c4) (ns ++ [x])) (hg : (w.alloc (.cells #[.int .i64 x] 2)).grownBy w4 vn.ownBlock) (hp : (Value.slice a4 (ns.length + 1) c4).ownBlock = vn.ownBlock ∨ (Value.slice a4 (ns.length + 1) c4).ownBlock = some (w.heap.size + 1)) (hlo : lo ≤ w.heap.size) :
    Ls2 w4 lo (.slice a4 (ns.length + 1) c4) vp (ns ++ [x]) ps ∧ Below lo w w4 := by
  refine ⟨⟨ho, h.pl.keepOn fun k hk => (hg.block k (by have := (h.pl.lt k hk).2; simp; omega) fun e => h.ap k e.symm hk).trans (Below.heap_alloc _ _ _ (h.pl.lt k hk).2), ?_⟩, ((Below.refl lo w).alloc hlo _).grown hg (by simp; omega) fun k hk => (h.nl.lt k hk).1⟩
  intro g hg2 hg3
  rcases hp with e | e
  · exact h.ap g (e.symm.trans hg2) hg3
  · have := (h.pl.lt g hg3).2
    rw [e] at hg2
    simp at hg2
    omega
theorem Ls2.pushP {w w4 : World} {lo c4 : Nat} {a4 : Option Addr} {vn vp : Value} {ns ps : List Int} {x : Int} (h : Ls2 w lo vn vp ns ps) (ho : Ol w4 lo (.slice a4 (ps.length + 1) c4) (ps ++ [x])) (hg : (w.alloc (.cells #[.int .i64 x] 2)).grownBy w4 vp.ownBlock) (hp : (Value.slice a4 (ps.length + 1) c4).ownBlock = vp.ownBlock ∨ (Value.slice a4 (ps.length + 1) c4).ownBlock = some (w.heap.size + 1)) (hlo : lo ≤ w.heap.size) :
    Ls2 w4 lo vn (.slice a4 (ps.length + 1) c4) ns (ps ++ [x]) ∧ Below lo w w4 := by
  refine ⟨⟨h.nl.keepOn fun k hk => (hg.block k (by have := (h.nl.lt k hk).2; simp; omega) fun e => h.ap k hk e.symm).trans (Below.heap_alloc _ _ _ (h.nl.lt k hk).2), ho, ?_⟩, ((Below.refl lo w).alloc hlo _).grown hg (by simp; omega) fun k hk => (h.pl.lt k hk).1⟩
  intro g hg2 hg3
  rcases hp with e | e
  · exact h.ap g hg2 (e.symm.trans hg3)
  · have := (h.nl.lt g hg2).2
    rw [e] at hg3
    simp at hg3
    omega
theorem Ls2.pop {w : World} {lo cn cq gn gp : Nat} {ns ps : List Int} {x y : Int} (h : Ls2 w lo (.slice (some ⟨gn, 0, none⟩) (ns.length + 1) cn) (.slice (some ⟨gp, 0, none⟩) (ps.length + 1) cq) (ns ++ [x]) (ps ++ [y])) :
    Ls2 w lo (.slice (some ⟨gn, 0, none⟩) ns.length cn) (.slice (some ⟨gp, 0, none⟩) ps.length cq) ns ps := ⟨h.nl.pop, h.pl.pop, h.ap⟩
/-- To be read: a fault and nothing else, or 0 and numbers. -/
def OutI (w : World) (c : Int) (v : Value) (xs : List Int) : Prop := (c ≠ 0 ∧ v = .slice none 0 0) ∨ (c = 0 ∧ RdRow w v xs.length (fun i => xs.getD i 0))
theorem OutI.later {w w' : World} {c : Int} {v : Value} {xs : List Int} (h : OutI w c v xs) (hb : Below w.heap.size w w') : OutI w' c v xs := by
  rcases h with h | ⟨h, h1⟩
  · exact Or.inl h
  · exact Or.inr ⟨h, h1.later hb⟩
theorem OutI.shape {w : World} {c : Int} {v : Value} {xs : List Int} (h : OutI w c v xs) : ∃ ao k cap, v = .slice ao k cap := by
  rcases h with ⟨_, rfl⟩ | ⟨h, h1⟩
  · exact ⟨_, _, _, rfl⟩
  · obtain ⟨ao, cap, e⟩ := h1.shape
    exact ⟨_, _, _, e⟩
/-- It owns its memory, from lo on, below hi. -/
def OwnI (lo hi : Nat) (w : World) (c : Int) (v : Value) (xs : List Int) : Prop := (c ≠ 0 ∧ v = .slice none 0 0) ∨ (c = 0 ∧ ((xs = [] ∧ ∃ ao cap, v = .slice ao 0 cap) ∨ ∃ g cap, v = .slice (some ⟨g, 0, none⟩) xs.length cap ∧ lo ≤ g ∧ g < hi ∧ Seg w g 2 0 xs.length (fun i => .int .i64 (xs.getD i 0))))
theorem OwnI.keep {lo hi : Nat} {w w' : World} {c : Int} {v : Value} {xs : List Int} (h : OwnI lo hi w c v xs) (hk : Keep lo hi w w') : OwnI lo hi w' c v xs := by
  rcases h with h | ⟨h, h2 | ⟨g, cap, rfl, h1, h2, hm⟩⟩
  · exact Or.inl h
  · exact Or.inr ⟨h, Or.inl h2⟩
  · exact Or.inr ⟨h, Or.inr ⟨g, cap, rfl, h1, h2, hm.of_block (hk g h1 h2)⟩⟩
theorem OwnI.rd {lo hi : Nat} {w : World} {c : Int} {v : Value} {xs : List Int} (h : OwnI lo hi w c v xs) : OutI w c v xs := by
  rcases h with h | ⟨h, ⟨rfl, ao, cap, rfl⟩ | ⟨g, cap, rfl, h1, h2, hm⟩⟩
  · exact Or.inl h
  · exact Or.inr ⟨h, Or.inl ⟨ao, cap, rfl, rfl⟩⟩
  · exact Or.inr ⟨h, hm.rd⟩
/-- What a list of its own is as an answer. -/
theorem OwnI.of {lo hi : Nat} {w : World} {v : Value} {xs : List Int} (h : Ol w lo v xs) (hh : w.heap.size ≤ hi) : OwnI lo hi w 0 v xs := by
  refine Or.inr ⟨rfl, ?_⟩
  obtain ⟨_, h1 | ⟨g, cap, cur, hv, hg, hb, h1, h2, h3, h4⟩⟩ := h
  · refine Or.inl ⟨List.length_eq_zero_iff.1 h1.2, none, 0, h1.1⟩
  · refine Or.inr ⟨g, cap, hv, hg, Nat.lt_of_lt_of_le (Array.getElem?_eq_some_iff.1 hb).1 hh, cur, hb, fun i hi => ?_⟩
    have e : (cur.toList.take (xs.length * 1))[i]? = (ints xs)[i]? := by rw [h4]
    rw [List.getElem?_take_of_lt (by omega), ints_at xs i hi] at e
    rw [Nat.zero_add, ← Array.getElem?_toList]
    exact e
set_option maxHeartbeats 400000 in
theorem eqI_go {w : World} {c : Int} {v v' : Value} {n : Nat} {f : Nat → Int} (h1 : RdRow w v n f) (h3 : RdRow w v' n f) (hn : n ≤ 1048576) :
    Calls Try.prog 19 #[.agg #[.int .i64 c, v], .agg #[.int .i64 c, v']] w fun e w' => e = .returned (.bool true) ∧ Below w.heap.size w w' := by
  obtain ⟨ao, cap, rfl⟩ := h1.shape
  obtain ⟨ao', cap', rfl⟩ := h3.shape
  have a1 : ∀ W, Below w.heap.size w W → Hid (RdRow W (.slice ao n cap) n f ∧ RdRow W (.slice ao' n cap') n f) := fun W hb => ⟨h1.later hb, h3.later hb⟩
  have HN : Hid (n ≤ 1048576) := hn
  clear h1 h3 hn
  go_enter Try.func19, Try.ntmps19
  go_wp2_with fail
  refine (eqS_any (a1 _ (((Below.refl _ _).alloc (Nat.le_refl _) _).alloc (by simp) _)).out.1 (a1 _ (((Below.refl _ _).alloc (Nat.le_refl _) _).alloc (by simp) _)).out.2 (by have := HN.out; omega)).mono ?_
  rintro e w1 ⟨rfl, q, rfl⟩
  clear a1
  go_wp2
  go_ret
  exact ⟨rfl, below_drewN (((Below.refl _ _).alloc (Nat.le_refl _) _).alloc (by simp) _) _⟩
theorem eqI_any {w : World} {c : Int} {v v' : Value} {xs : List Int} (h : OutI w c v xs) (h' : OutI w c v' xs) (hn : c = 0 → xs.length ≤ 1048576) :
    Calls Try.prog 19 #[.agg #[.int .i64 c, v], .agg #[.int .i64 c, v']] w fun e w' => e = .returned (.bool true) ∧ Below w.heap.size w w' := by
  rcases h with ⟨h0, rfl⟩ | ⟨h0, h1⟩
  · rcases h' with ⟨_, rfl⟩ | ⟨h2, _⟩
    · exact eqI_go (RdRow.nil w fun _ => 0) (RdRow.nil w fun _ => 0) (by omega)
    · exact absurd h2 h0
  · rcases h' with ⟨h2, rfl⟩ | ⟨_, h3⟩
    · exact absurd h0 h2
    · exact eqI_go h1 h3 (hn h0)
/-- Marked from 1 on, the next mark being r. -/
def MkdI (lo hi : Nat) (w : World) (c : Int) (v : Value) (xs : List Int) (r : Int) : Prop := (c ≠ 0 ∧ v = .slice none 0 0 ∧ r = 1) ∨ (c = 0 ∧ r = 1 + (xs.length : Int) ∧ ((xs.length = 0 ∧ ∃ ao cap, v = .slice ao 0 cap) ∨ ∃ g cap, v = .slice (some ⟨g, 0, none⟩) xs.length cap ∧ lo ≤ g ∧ g < hi ∧ Seg w g 2 0 xs.length (fun i : Nat => .int .i64 (1 + i))))
theorem MkdI.keep {lo hi : Nat} {w w' : World} {c : Int} {v : Value} {xs : List Int} {r : Int} (h : MkdI lo hi w c v xs r) (hk : Keep lo hi w w') : MkdI lo hi w' c v xs r := by
  rcases h with h | ⟨h, h0, h2 | ⟨g, cap, rfl, h1, h2, hm⟩⟩
  · exact Or.inl h
  · exact Or.inr ⟨h, h0, Or.inl h2⟩
  · exact Or.inr ⟨h, h0, Or.inr ⟨g, cap, rfl, h1, h2, hm.of_block (hk g h1 h2)⟩⟩
theorem MkdI.pos {lo hi : Nat} {w : World} {c : Int} {v : Value} {xs : List Int} {r : Int} (h : MkdI lo hi w c v xs r) : 0 ≤ r := by
  rcases h with ⟨_, _, rfl⟩ | ⟨_, rfl, _⟩ <;> omega
theorem markL_any {lo hi : Nat} {w : World} {v : Value} {xs : List Int} (h : (xs = [] ∧ ∃ ao cap, v = .slice ao 0 cap) ∨ ∃ g cap, v = .slice (some ⟨g, 0, none⟩) xs.length cap ∧ lo ≤ g ∧ g < hi ∧ Seg w g 2 0 xs.length (fun i => .int .i64 (xs.getD i 0))) (hl : xs.length ≤ 1048576) :
    Calls Try.prog 57 #[v, .int .i64 1] w fun e w' => e = .returned (.int .i64 (1 + (xs.length : Int))) ∧ ((xs.length = 0 ∧ ∃ ao cap, v = .slice ao 0 cap) ∨ ∃ g cap, v = .slice (some ⟨g, 0, none⟩) xs.length cap ∧ lo ≤ g ∧ g < hi ∧ Seg w' g 2 0 xs.length (fun i : Nat => .int .i64 (1 + i))) ∧ Within lo hi w w' := by
  rcases h with ⟨rfl, ao, cap, rfl⟩ | ⟨g, cap, rfl, h1, h2, h3⟩
  · refine (markS_none ao cap 1 w).mono ?_
    rintro e w' ⟨rfl, rfl⟩
    exact ⟨rfl, Or.inl ⟨rfl, ao, cap, rfl⟩, Within.refl _ _ _⟩
  · refine (markS_some g 0 xs.length cap _ 1 w (by omega) (by omega) h3).mono ?_
    rintro e w' ⟨rfl, a1, a2, _⟩
    exact ⟨rfl, Or.inr ⟨g, cap, rfl, h1, h2, a1⟩, a2.mono h1 h2⟩
theorem heldL_any {lo hi len : Nat} {w : World} {v : Value} (h : (len = 0 ∧ ∃ ao cap, v = .slice ao 0 cap) ∨ ∃ g cap, v = .slice (some ⟨g, 0, none⟩) len cap ∧ lo ≤ g ∧ g < hi ∧ Seg w g 2 0 len (fun i : Nat => .int .i64 (1 + i))) (hl : len ≤ 1048576) :
    Calls Try.prog 58 #[v, .int .i64 1] w fun e w' => e = .returned (.int .i64 (1 + (len : Int))) ∧ w = w' := by
  rcases h with ⟨rfl, ao, cap, rfl⟩ | ⟨g, cap, rfl, h1, h2, h3⟩
  · refine (heldS_none ao cap 1 w).mono ?_
    rintro e w' ⟨rfl, rfl⟩
    exact ⟨rfl, rfl⟩
  · exact heldS_some g 0 len cap 1 w (by omega) (by omega) fun i hi => h3.cell hi
set_option maxHeartbeats 400000 in
theorem markI_any {lo hi : Nat} {w : World} {c : Int} {v : Value} {xs : List Int} (h : OwnI lo hi w c v xs) (hn : c = 0 → xs.length ≤ 1048576) (hlo : lo ≤ w.heap.size) (hhi : hi ≤ w.heap.size) :
    Calls Try.prog 21 #[.agg #[.int .i64 c, v], .int .i64 1] w fun e w' => ∃ r, e = .returned (.int .i64 r) ∧ MkdI lo hi w' c v xs r ∧ Within lo hi w w' := by
  rcases h with ⟨h0, rfl⟩ | ⟨rfl, hm⟩
  · have H0 : Hid (c ≠ 0) := h0
    clear h0 hn
    go_enter Try.func21, Try.ntmps21
    go_wp2_with fail
    refine (markS_none _ _ _ _).mono ?_
    rintro e w1 ⟨rfl, rfl⟩
    go_wp2
    go_ret
    exact ⟨1, rfl, Or.inl ⟨H0.out, rfl, rfl⟩, (Within.refl _ _ _).alloc hlo _⟩
  · have HN : Hid (xs.length ≤ 1048576) := hn rfl
    obtain ⟨ao, k, cap, rfl⟩ : ∃ ao k cap, v = .slice ao k cap := by
      rcases hm with ⟨_, _, _, rfl⟩ | ⟨g, cap, rfl, _⟩
      · exact ⟨_, _, _, rfl⟩
      · exact ⟨_, _, _, rfl⟩
    have HM : ∀ o, Hid ((xs = [] ∧ ∃ ao' cap', (.slice ao k cap : Value) = .slice ao' 0 cap') ∨ ∃ g cp, (.slice ao k cap : Value) = .slice (some ⟨g, 0, none⟩) xs.length cp ∧ lo ≤ g ∧ g < hi ∧ Seg (w.alloc o) g 2 0 xs.length (fun i => .int .i64 (xs.getD i 0))) := by
      intro o
      rcases hm with hm | ⟨g, cp, e, h1, h2, hm⟩
      · exact Or.inl hm
      · exact Or.inr ⟨g, cp, e, h1, h2, hm.alloc o⟩
    clear hm hn
    go_enter Try.func21, Try.ntmps21
    go_wp2_with fail
    refine (markL_any (HM _).out HN.out).mono ?_
    rintro e w1 ⟨rfl, hm1, hw1⟩
    have H1 : Hid (MkdI lo hi w1 0 (.slice ao k cap) xs (1 + (xs.length : Int)) ∧ Within lo hi w w1) := ⟨Or.inr ⟨rfl, rfl, hm1⟩, ((Within.refl _ _ _).alloc hlo _).trans hw1⟩
    clear hm1 hw1 HM
    go_wp2
    go_ret
    exact ⟨_, rfl, H1.out.1, H1.out.2⟩
set_option maxHeartbeats 400000 in
theorem heldI_any {lo hi : Nat} {w : World} {c : Int} {v : Value} {xs : List Int} {r : Int} (h : MkdI lo hi w c v xs r) (hn : c = 0 → xs.length ≤ 1048576) (hhi : hi ≤ w.heap.size) :
    Calls Try.prog 22 #[.agg #[.int .i64 c, v], .int .i64 1] w fun e w' => e = .returned (.int .i64 r) ∧ Below w.heap.size w w' := by
  rcases h with ⟨h0, rfl, rfl⟩ | ⟨rfl, hr, hm⟩
  · clear h0 hn
    go_enter Try.func22, Try.ntmps22
    go_wp2_with fail
    refine (heldS_none _ _ _ _).mono ?_
    rintro e w1 ⟨rfl, rfl⟩
    go_wp2
    go_ret
    exact ⟨rfl, (Below.refl _ _).alloc (Nat.le_refl _) _⟩
  · have HN : Hid (xs.length ≤ 1048576) := hn rfl
    obtain ⟨ao, k, cap, rfl⟩ : ∃ ao k cap, v = .slice ao k cap := by
      rcases hm with ⟨_, _, _, rfl⟩ | ⟨g, cap, rfl, _⟩
      · exact ⟨_, _, _, rfl⟩
      · exact ⟨_, _, _, rfl⟩
    have HM : ∀ o, Hid ((xs.length = 0 ∧ ∃ ao' cap', (.slice ao k cap : Value) = .slice ao' 0 cap') ∨ ∃ g cp, (.slice ao k cap : Value) = .slice (some ⟨g, 0, none⟩) xs.length cp ∧ lo ≤ g ∧ g < hi ∧ Seg (w.alloc o) g 2 0 xs.length (fun i : Nat => .int .i64 (1 + i))) := by
      intro o
      rcases hm with hm | ⟨g, cp, e, h1, h2, hm⟩
      · exact Or.inl hm
      · exact Or.inr ⟨g, cp, e, h1, h2, hm.alloc o⟩
    have HR : Hid (r = 1 + (xs.length : Int)) := hr
    have hr0 : 0 ≤ r := by rw [hr]; omega
    clear hm hn hr
    go_enter Try.func22, Try.ntmps22
    go_wp2_with fail
    refine (heldL_any (HM _).out HN.out).mono ?_
    rintro e w1 ⟨rfl, rfl⟩
    rw [← HR.out]
    clear HM
    go_wp2
    go_ret
    exact ⟨rfl, (Below.refl _ _).alloc (Nat.le_refl _) _⟩
theorem wp_region_kept {P : Program} {id : Nat} {Q : Exit → Act → World → Prop} {a : Act} {w : World} {l : List Oper} (B : Nat) (hm : P.follows .mixedOrders = true) (hB : Region.lexB .any l.toArray = true)
    (h : Nonempty (Kept B w) → wpQuiet P l.toArray (fun w' => ∃ x : Kept B w, w' = x.w) (fun a' => ∀ w', (∃ x : Kept B w, w' = x.w) → Q .normal a' w') l a) : (Code.region id l.toArray true).wp P Q a w :=
  wp_region_quiet (C := fun w' => ∃ x : Kept B w, w' = x.w) hm hB ⟨⟨w.drew, (Below.refl B w).drew⟩, rfl⟩ (by simpa using h ⟨⟨w, Below.refl B w⟩⟩)
theorem Blk.grownBy {w w' : World} {b : Nat} {cs : Array Value} {t : TypeId} {row : Option Nat} (h : Blk w b cs t) (hg : w.grownBy w' row) (hr : ∀ g, row = some g → g ≠ b) : Blk w' b cs t :=
  (hg.block b h.lt fun e => hr b e.symm rfl).trans h
end Go.Proofs.Ytclnmikneomccaa
