/- slices.Concat of two rows of numbers: its contract. -/
import Derived.Test.YtndfncjoknibaaaDoorMl
import Derived.Lib.AppendZeros
namespace Go.Proofs.YtndfncjoknibaaaDoor
open Go.RowKit Fl
set_option linter.unusedVariables false
/-- 'append(row, part...)' of numbers, to a row that the call itself has built. -/
theorem apps_law {ops : Array Oper} {rest : List Oper} {o : Oper} {a : Act} {Q : Exit → Act → World → Prop} (hgd : o.guard = none) (s x : Operand)
    (ho : o.op = .call { callee := .builtin .append, args := #[s, x], argTypes := #[22, 22] }) (w : World) (base : Nat) (v : Value) (n : Nat) (xs : List Value) (b off m cap : Nat) (f : Nat → Int) (hs : a.eval s = v) (hown : w.ownsRow base 2 1 v n xs) (hx : a.eval x = .slice (some ⟨b, off, none⟩) m cap)
    (hn : n + m ≤ 1000000000) (h0 : 0 < m) (hbase : base ≤ w.heap.size) (hc : ∀ i, i < m → w.cell? ⟨b, off + i, none⟩ = some (.int .i64 (f i)))
    (h : ∀ v' w', w'.ownsRow base 2 1 v' (n + m) (xs ++ (List.range m).map fun i => .int .i64 (f i)) → w.grownBy w' v.ownBlock → v' ≠ .slice none 0 0 → wpList Tryd.prog ops Q rest (a.put o.dst v') w') : wpList Tryd.prog ops Q (o :: rest) a w := by
  obtain ⟨i, h1, h2, h3, h4⟩ := info_parts info2
  refine wpList_append_own _ hgd s x 22 ho base 2 i (.int .i64 0) 1 8 Tryd.underlying22 h1 h2 h3 h4 rfl (by decide) v n xs hs hown ⟨b, off, none⟩ m cap ((List.range m).map fun i => .int .i64 (f i)) hx (by simp) ?_ ?_ ?_ ?_ hbase fun v' w' a1 a2 a3 => h v' w' a1 a2 (fun e => by have := (a3.1 e).2; omega)
  · intro j y hj
    have hjn : j < m := by
      have := (List.getElem?_eq_some_iff.1 hj).1
      simpa using this
    rw [List.getElem?_map, List.getElem?_range hjn] at hj
    simp at hj
    subst hj
    have e0 : (⟨b, off, none⟩ : Addr).add j = ⟨b, off + j, none⟩ := by
      unfold Addr.add
      split
      · rename_i h; subst h; rfl
      · rfl
    rw [e0]
    exact hc j hjn
  · intro y hy
    obtain ⟨k, _, rfl⟩ := List.mem_map.1 hy
    rfl
  · unfold maxLen; omega
  · omega
set_option maxHeartbeats 800000 in
set_option maxRecDepth 10000 in
theorem grow_any {n : Nat} (h0 : 0 < n) (hn : n ≤ 1000000000) (w : World) :
    Calls Tryd.prog 101 #[.slice none 0 0, .int .i64 n] w fun e w' => ∃ v, e = .returned v ∧ w'.ownsRow w.heap.size 2 1 v 0 [] ∧ v ≠ .slice none 0 0 ∧ Below w.heap.size w w' := by
  obtain ⟨i, h1, h2, h3, h4⟩ := info_parts info2
  have hr := fun ty => Lib.run_append_nil_zeros (P := Tryd.prog) w 22 3 ty 2 i (.int .i64 0) .i64 .i64 Tryd.underlying22 Tryd.underlying3 h1 h2 n h0 (by omega) (by omega) (by rw [h4]; omega)
  obtain ⟨c, hcap⟩ : ∃ c, c = grownCap w n 0 2 := ⟨_, rfl⟩
  have hc1 : n ≤ c := by rw [hcap]; exact grownCap_ge _ _ _ _
  have hc2 : c ≤ maxLen := by rw [hcap]; exact grownCap_le_maxLen _ _ _ _ (by unfold maxLen; omega)
  rw [← hcap] at hr
  have HO : Hid ((w.drew.alloc (.cells (Builtin.zeroCells (Value.int .i64 0).cells n ++ Builtin.zeroCells (Value.int .i64 0).cells (c - n)) 2)).ownsRow w.heap.size 2 1 (.slice (some ⟨w.heap.size, 0, none⟩) 0 c) 0 [] ∧ Below w.heap.size w (w.drew.alloc (.cells (Builtin.zeroCells (Value.int .i64 0).cells n ++ Builtin.zeroCells (Value.int .i64 0).cells (c - n)) 2))) := by
    refine ⟨⟨by simp, Or.inr ⟨w.heap.size, c, _, rfl, Nat.le_refl _, heap_alloc_new w.drew _, Nat.zero_le _, hc2, ?_, by simp⟩⟩, (Below.refl _ _).drew.alloc (Nat.le_refl _) _⟩
    simp [Builtin.zeroCells, Value.cells]
    omega
  clear hcap
  have hcI : (0 : Int) ≤ c := by omega
  go_enter Tryd.func101, Tryd.ntmps101
  go_wp2_with (first | (at_builtin; refine Lib.wpList_append_run _ rfl _ _ _ _ rfl _ _ rfl rfl _ _ (hr _) ?_))
  go_ret
  exact ⟨_, rfl, HO.out.1, by simp, HO.out.2⟩
def cat (lo hi : Int) (f : Nat → Int) (i : Nat) : Int := if i = 0 then lo else if i = 1 then hi else f (i - 2)
def two (lo hi : Int) (i : Nat) : Int := if i = 0 then lo else hi
theorem cat_list (lo hi : Int) (f : Nat → Int) (n : Nat) : ((List.range 2).map fun i => (.int .i64 (two lo hi i) : Value)) ++ ((List.range n).map fun i => .int .i64 (f i)) = (List.range (2 + n)).map fun i => .int .i64 (cat lo hi f i) := by
  apply List.ext_getElem?
  intro i
  by_cases h : i < 2
  · rw [List.getElem?_append_left (by simpa using h)]
    have h2 : i = 0 ∨ i = 1 := by omega
    rw [List.getElem?_map, List.getElem?_map, List.getElem?_range h, List.getElem?_range (by omega)]
    rcases h2 with rfl | rfl <;> rfl
  · rw [List.getElem?_append_right (by simp; omega)]
    simp only [List.length_map, List.length_range, List.getElem?_map]
    by_cases h3 : i - 2 < n
    · rw [List.getElem?_range h3, List.getElem?_range (by omega)]
      simp [cat]
      rw [if_neg (by omega), if_neg (by omega)]
    · rw [List.getElem?_eq_none (by simp; omega), List.getElem?_eq_none (by simp; omega)]
      rfl
set_option maxHeartbeats 1600000 in
set_option maxRecDepth 10000 in
theorem concat_any {b2 cp q c1 b off n cap : Nat} {lo hi : Int} {f : Nat → Int} {w : World} (h0 : 0 < n) (hn : n ≤ 1000) (hs0 : w.cell? ⟨b2, 0, none⟩ = some (.slice (some ⟨q, 0, none⟩) 2 c1)) (hs1 : w.cell? ⟨b2, 1, none⟩ = some (.slice (some ⟨b, off, none⟩) n cap))
    (hq : ∀ i, i < 2 → w.cell? ⟨q, 0 + i, none⟩ = some (.int .i64 (two lo hi i))) (hc : ∀ i, i < n → w.cell? ⟨b, off + i, none⟩ = some (.int .i64 (f i))) :
    Calls Tryd.prog 85 #[.slice (some ⟨b2, 0, none⟩) 2 cp] w fun e w' => ∃ g cp, e = .returned (.slice (some ⟨g, 0, none⟩) (2 + n) cp) ∧ w.heap.size ≤ g ∧ Seg w' g 2 0 (2 + n) (fun i => .int .i64 (cat lo hi f i)) ∧ Below w.heap.size w w' := by
  have HQ : Hid ((∀ i, i < 2 → w.cell? ⟨q, 0 + i, none⟩ = some (.int .i64 (two lo hi i))) ∧ ∀ i, i < n → w.cell? ⟨b, off + i, none⟩ = some (.int .i64 (f i))) := ⟨hq, hc⟩
  have hn1 : ¬ ((2 : Int) + n < 0) := by omega
  have hn2 : (2 : Int) + n ≤ 1002 := by omega
  clear hq hc
  go_enter Tryd.func85, Tryd.ntmps85
  go_wp2_with fail
  go_loop [3, 11] (fun s i => (i = .int .i64 0 ∧ s = .int .i64 0) ∨ (i = .int .i64 1 ∧ s = .int .i64 2) ∨ (i = .int .i64 2 ∧ s = .int .i64 (2 + n))) (fun _ i => 2 - (intOf i).toNat)
  case atStart => exact Or.inl ⟨rfl, rfl⟩
  case round =>
    rcases hrel with ⟨rfl, rfl⟩ | ⟨rfl, rfl⟩ | ⟨rfl, rfl⟩
    · go_wp2
      go_round
      case rel => exact Or.inr (Or.inl ⟨rfl, rfl⟩)
      case measure => simp [intOf]
    · go_wp2
      go_round
      case rel => exact Or.inr (Or.inr ⟨rfl, rfl⟩)
      case measure => simp [intOf]
    · have HG : Hid (Calls Tryd.prog 101 #[.slice none 0 0, .int .i64 (2 + n)] w fun e w' => ∃ v, e = .returned v ∧ w'.ownsRow w.heap.size 2 1 v 0 [] ∧ v ≠ .slice none 0 0 ∧ Below w.heap.size w w') := by
        have := grow_any (n := 2 + n) (by omega) (by omega) w
        rwa [show (((2 + n : Nat)) : Int) = 2 + (n : Int) by omega] at this
      go_wp2_with fail
      refine HG.out.mono ?_
      rintro e w1 ⟨v, rfl, ho, hnn, hb⟩
      have h0' : ∀ W, Below w.heap.size w W → W.cell? ⟨b2, 0, none⟩ = some (.slice (some ⟨q, 0, none⟩) 2 c1) := fun W h => (h.cell (World.block_lt_of_cell? _ _ hs0)).trans hs0
      have h1' : ∀ W, Below w.heap.size w W → W.cell? ⟨b2, 1, none⟩ = some (.slice (some ⟨b, off, none⟩) n cap) := fun W h => (h.cell (World.block_lt_of_cell? _ _ hs1)).trans hs1
      have A1 : Hid (w1.ownsRow w.heap.size 2 1 v 0 [] ∧ Below w.heap.size w w1) := ⟨ho, hb⟩
      obtain ⟨g0, cap0, rfl, _, _⟩ := owned_seg ho hnn
      clear ho hnn hb hs0 hs1 HG
      go_wp2_with fail
      go_loopw [6, 27] (fun v i wr => (i = .int .i64 0 ∧ wr.ownsRow w.heap.size 2 1 v 0 [] ∧ Below w.heap.size w wr) ∨ (i = .int .i64 1 ∧ wr.ownsRow w.heap.size 2 1 v 2 ((List.range 2).map fun i => .int .i64 (two lo hi i)) ∧ Below w.heap.size w wr) ∨ (i = .int .i64 2 ∧ v ≠ .slice none 0 0 ∧ wr.ownsRow w.heap.size 2 1 v (2 + n) ((List.range (2 + n)).map fun i => .int .i64 (cat lo hi f i)) ∧ Below w.heap.size w wr)) (fun _ i _ => 2 - (intOf i).toNat)
      case atStart => exact Or.inl ⟨rfl, A1.out⟩
      case round =>
        rcases hrel with ⟨rfl, ho, hb⟩ | ⟨rfl, ho, hb⟩ | ⟨rfl, hnn, ho, hb⟩
        · have A2 : Hid (wr.ownsRow w.heap.size 2 1 u6 0 [] ∧ Below w.heap.size w wr) := ⟨ho, hb⟩
          have c0 := h0' _ hb
          clear ho hb
          go_wp2_with (first | (at_builtin; refine apps_law rfl (.tmp 31) (.tmp 32) rfl wr w.heap.size u6 0 [] q 0 2 c1 (two lo hi) rfl A2.out.1 rfl (by omega) (by omega) A2.out.2.size (fun i hi => (A2.out.2.cell (World.block_lt_of_cell? _ _ (HQ.out.1 i hi))).trans (HQ.out.1 i hi)) ?_; intro v1 w3 own3 grow3 nn3))
          have A3 : Hid (w3.ownsRow w.heap.size 2 1 v1 2 ((List.range 2).map fun i => .int .i64 (two lo hi i)) ∧ Below w.heap.size w w3) := by
            refine ⟨by simpa using own3, A2.out.2.grown grow3 A2.out.2.size (fun k hk => (A2.out.1.lt k hk).1)⟩
          clear own3 grow3 nn3 c0
          go_wp2
          go_roundw
          case rel => exact Or.inr (Or.inl ⟨rfl, A3.out⟩)
          case measure => simp [intOf]
        · have A2 : Hid (wr.ownsRow w.heap.size 2 1 u6 2 ((List.range 2).map fun i => .int .i64 (two lo hi i)) ∧ Below w.heap.size w wr) := ⟨ho, hb⟩
          have c0 := h1' _ hb
          clear ho hb
          go_wp2_with (first | (at_builtin; refine apps_law rfl (.tmp 31) (.tmp 32) rfl wr w.heap.size u6 2 _ b off n cap f rfl A2.out.1 rfl (by omega) h0 A2.out.2.size (fun i hi => (A2.out.2.cell (World.block_lt_of_cell? _ _ (HQ.out.2 i hi))).trans (HQ.out.2 i hi)) ?_; intro v1 w3 own3 grow3 nn3))
          have A3 : Hid (v1 ≠ .slice none 0 0 ∧ w3.ownsRow w.heap.size 2 1 v1 (2 + n) ((List.range (2 + n)).map fun i => .int .i64 (cat lo hi f i)) ∧ Below w.heap.size w w3) := by
            rw [cat_list] at own3
            exact ⟨nn3, own3, A2.out.2.grown grow3 A2.out.2.size (fun k hk => (A2.out.1.lt k hk).1)⟩
          clear own3 grow3 nn3 c0
          go_wp2
          go_roundw
          case rel => exact Or.inr (Or.inr ⟨rfl, A3.out⟩)
          case measure => simp [intOf]
        · obtain ⟨g, cp', rfl, hg, hsg⟩ := owned_seg ho hnn
          have A4 : Hid (w.heap.size ≤ g ∧ Seg wr g 2 0 (2 + n) (fun i => .int .i64 (cat lo hi f i)) ∧ Below w.heap.size w wr) := by
            refine ⟨hg, ?_, hb⟩
            rw [Nat.mul_one] at hsg
            exact hsg.congr fun i hi => by simp [List.getD_eq_getElem?_getD, hi]
          clear ho hb hsg hnn hg
          go_wp2
          go_ret
          exact ⟨g, cp', rfl, A4.out⟩
end Go.Proofs.YtndfncjoknibaaaDoor
