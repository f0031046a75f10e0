/- A stack turned: both packages. Marks beside other memory: what a stack's marks leave alone. -/
import Derived.Test.YtnpcldgacdgplaaMf
import Derived.Deep.DeepCutAuto
namespace Go.Proofs.Ytnpcldgacdgplaa
open Go.RowKit Fl
set_option linter.unusedVariables false
set_option linter.unusedSimpArgs false
theorem frozen_new {W : World} {c : Array Value} {t : TypeId} {r j : Nat} (hr : r = W.heap.size) : (W.alloc (.cells c t)).frozen? ⟨r, j, none⟩ = false := by
  subst hr
  simp
theorem frozen_old {W : World} {o : Obj} {p : Addr} (h : p.block < W.heap.size) : (W.alloc o).frozen? p = W.frozen? p := ((Below.refl W.heap.size W).alloc (Nat.le_refl _) o).frozen h
/-- The films from the last to the first. -/
def revG (n : Nat) (G : Nat → Fi) (i : Nat) : Fi := G (n - 1 - i)
set_option maxHeartbeats 800000 in
theorem reverse_none (ao : Option Addr) (cap : Nat) (w : World) : Calls Try.prog 62 #[.slice ao 0 cap] w fun e w' => e = .returned (.tuple #[]) ∧ w = w' := by
  go_enter Try.func62, Try.ntmps62
  go_wp2_with fail
  refine wp_loop_rounds 1 ?_
  rw [rounds_succ]
  go_wp2
  go_returns
  exact ⟨rfl, rfl⟩
theorem reverse_own {lo : Nat} {X w : World} {v : Value} {n : Nat} {G : Nat → Fi} (hn : n ≤ 1000000000) (h : OwV w lo v n (fun i j => fcell (G i) j)) (hB : Below lo X w) :
    Calls Try.prog 62 #[v] w fun e w' => e = .returned (.tuple #[]) ∧ OwV w' lo v n (fun i j => fcell (revG n G i) j) ∧ Below lo X w' := by
  rcases h with ⟨ao, cap, rfl, rfl⟩ | ⟨g, cap, rfl, hg, hs⟩
  · refine (reverse_none ao cap w).mono ?_
    rintro e w' ⟨rfl, rfl⟩
    exact ⟨rfl, Or.inl ⟨_, _, rfl, rfl⟩, hB⟩
  · by_cases h0 : n = 0
    · subst h0
      refine (reverse_none _ cap w).mono ?_
      rintro e w' ⟨rfl, rfl⟩
      exact ⟨rfl, Or.inl ⟨_, _, rfl, rfl⟩, hB⟩
    · refine (reverse_some g n cap G lo X w (by omega) hn hs hB hg).mono ?_
      rintro e w' ⟨rfl, s, b⟩
      exact ⟨rfl, Or.inr ⟨g, cap, rfl, hg, s⟩, b⟩
theorem OwV.setOther {W : World} {lo : Nat} {v : Value} {n : Nat} {f : Nat → Nat → Value} (h : OwV W lo v n f) {c o : Nat} (hc : c < lo) (x : Value) : OwV (W.setCell ⟨c, o, none⟩ x) lo v n f := by
  rcases h with h | ⟨g, cap, rfl, hg, hs⟩
  · exact Or.inl h
  · exact Or.inr ⟨g, cap, rfl, hg, hs.setOther (by omega) x⟩
theorem OwV.lower {W : World} {lo lo' : Nat} {v : Value} {n : Nat} {f : Nat → Nat → Value} (h : OwV W lo v n f) (hl : lo' ≤ lo) : OwV W lo' v n f := by
  rcases h with h | ⟨g, cap, rfl, hg, hs⟩
  · exact Or.inl h
  · exact Or.inr ⟨g, cap, rfl, Nat.le_trans hl hg, hs⟩
set_option maxHeartbeats 1600000 in
theorem iTurnS_any {a o b n cap : Nat} {G : Nat → Fi} {w : World} (hn : n ≤ 1000000000) (hs : SegV w b 60 n 3 (fun i j => fcell (G i) j)) :
    Calls Try.prog 26 #[Sv a o (.slice (some ⟨b, 0, none⟩) n cap)] w fun e w' => ∃ v, e = .returned (Sv o a v) ∧ OwV w' w.heap.size v n (fun i j => fcell (revG n G i) j) ∧ Below w.heap.size w w' := by
  have hst := st64
  obtain ⟨Y, hY⟩ : ∃ Y, Y = (w.alloc (.cells #[.float .f64 a, .float .f64 o, .slice (some ⟨b, 0, none⟩) n cap] 30)).alloc (.cells #[.float .f64 0, .float .f64 0, .slice none 0 0] 30) := ⟨_, rfl⟩
  have hY2 : Y.heap.size = w.heap.size + 2 := by rw [hY]; simp
  have BY : Hid (Below w.heap.size w Y ∧ SegV Y b 60 n 3 (fun i j => fcell (G i) j) ∧ Y.heap.size = w.heap.size + 2) := by
    have h : Below w.heap.size w Y := by rw [hY]; exact ((Below.refl _ _).alloc (Nat.le_refl _) _).alloc (by simp) _
    exact ⟨h, hs.below h, hY2⟩
  have x0 : Y.cell? ⟨w.heap.size, 0, none⟩ = some (.float .f64 a) := by rw [hY]; exact cell_alloc_old (cell_alloc_new rfl rfl)
  have x1 : Y.cell? ⟨w.heap.size, 1, none⟩ = some (.float .f64 o) := by rw [hY]; exact cell_alloc_old (cell_alloc_new rfl rfl)
  have x2 : Y.cell? ⟨w.heap.size, 2, none⟩ = some (.slice (some ⟨b, 0, none⟩) n cap) := by rw [hY]; exact cell_alloc_old (cell_alloc_new rfl rfl)
  have y0 : Y.cell? ⟨w.heap.size + 1, 0, none⟩ = some (.float .f64 0) := by rw [hY]; exact cell_alloc_new (by simp) rfl
  have y1 : Y.cell? ⟨w.heap.size + 1, 1, none⟩ = some (.float .f64 0) := by rw [hY]; exact cell_alloc_new (by simp) rfl
  have y2 : Y.cell? ⟨w.heap.size + 1, 2, none⟩ = some (.slice none 0 0) := by rw [hY]; exact cell_alloc_new (by simp) rfl
  have yf : ∀ j, Y.frozen? ⟨w.heap.size + 1, j, none⟩ = false := fun j => by rw [hY]; simp
  clear hs
  go_enter Try.func26, Try.ntmps26
  go_upto_region 1 with fail
  rw [← hY]
  clear hY
  go_wp2_with fail
  refine (clone_some b 0 n cap G Y hn (fun i hi j hj => by rw [Nat.zero_add]; exact BY.out.2.1.cell hi hj)).mono ?_
  rintro e w1 ⟨v, rfl, ov, b1⟩
  obtain ⟨ao, cap', rfl⟩ := ov.form
  have A1 : Hid (OwV w1 Y.heap.size (.slice ao n cap') n (fun i j => fcell (G i) j) ∧ Below Y.heap.size Y w1) := ⟨ov, b1⟩
  clear ov b1
  go_wp2_with fail
  refine (reverse_own hn A1.out.1 A1.out.2).mono ?_
  rintro e w2 ⟨rfl, ov, b2⟩
  have A2 : Hid (OwV w2 Y.heap.size (.slice ao n cap') n (fun i j => fcell (revG n G i) j) ∧ Below Y.heap.size Y w2) := ⟨ov, b2⟩
  have z0 := old_cell b2 (by show w.heap.size < Y.heap.size; omega) x0
  have z1 := old_cell b2 (by show w.heap.size < Y.heap.size; omega) x1
  have q0 := old_cell b2 (by show w.heap.size + 1 < Y.heap.size; omega) y0
  have q1 := old_cell b2 (by show w.heap.size + 1 < Y.heap.size; omega) y1
  have q2 := old_cell b2 (by show w.heap.size + 1 < Y.heap.size; omega) y2
  have qf : ∀ j, w2.frozen? ⟨w.heap.size + 1, j, none⟩ = false := fun j => (b2.frozen (p := ⟨w.heap.size + 1, j, none⟩) (by show w.heap.size + 1 < Y.heap.size; omega)).trans (yf j)
  clear ov b2 x0 x1 x2 y0 y1 y2 yf A1 hY2
  go_wp2
  refine bodyPost_ret (v := Sv o a (.slice ao n cap')) (by simp [results, Try.results26, go_sem, q0, q1, q2]) rfl ⟨_, rfl, ?_, ?_⟩
  · exact (((A2.out.1.setOther (by have := BY.out.2.2; omega) _).setOther (by have := BY.out.2.2; omega) _).setOther (by have := BY.out.2.2; omega) _).lower (by have := BY.out.2.2; omega)
  · have hB : Below w.heap.size w w2 := BY.out.1.trans (A2.out.2.mono BY.out.1.size)
    exact ((hB.setCell (by simp) _).setCell (by simp) _).setCell (by simp) _
/-- 'append(row, film)' as one step of a region that draws its order. -/
theorem step_pushF {ops : Array Oper} {o : Oper} {a : Act} {K : Act → World → Prop} {Q : Exit → Act → World → Prop} {E : Prop} (hg : o.guard = none) (s x : Operand)
    (hop : o.op = Op.call { callee := Callee.builtin Builtin.append, args := #[s, x], argTypes := #[28, 28] }) {W : World} (w : World) (u0 u1 u2 : Value) (hW : W = w.alloc (.cells #[u0, u1, u2] 60)) (hu : ∀ u ∈ [u0, u1, u2], u.oneCell' = true)
    (base : Nat) (v : Value) (n : Nat) (xs : List Value) (hs : a.eval s = v) (hown : w.ownsRow base 60 3 v n xs) (c : Nat) (hx : a.eval x = .slice (some ⟨w.heap.size, 0, none⟩) 1 c) (hn : n ≤ 1000000000) (hbase : base ≤ w.heap.size)
    (hK : ∀ v' w', w'.ownsRow base 60 3 v' (n + 1) (xs ++ [u0, u1, u2]) → (w.alloc (.cells #[u0, u1, u2] 60)).grownBy w' v.ownBlock → K (a.put o.dst v') w') :
    if Region.wanted o (yielded ops a.tmps) = true then Oper.wp Try.prog o a W K Q else E := by
  subst hW
  have hw : Region.wanted o (yielded ops a.tmps) = true := by simp [Region.wanted, hg]
  rw [if_pos hw]
  obtain ⟨i, h1, h2, h3, h4⟩ := info_parts info60
  obtain ⟨v', w', hrun, r1, r2, _⟩ := run_append_own (P := Try.prog) (w.alloc (.cells #[u0, u1, u2] 60)) base 28 o.type 60 i (.agg #[.float .f64 0, .float .f64 0, .int .i64 0]) 3 24 Try.underlying28 h1 h2 h3 h4 rfl (by decide) v n xs (hown.alloc _) ⟨w.heap.size, 0, none⟩ 1 c [u0, u1, u2] rfl
    (by
      intro j y hj
      match j, hj with
      | 0, hj => simp at hj; subst hj; simp [Addr.add]
      | 1, hj => simp at hj; subst hj; simp [Addr.add]
      | 2, hj => simp at hj; subst hj; simp [Addr.add])
    hu (by unfold maxLen; omega) (by omega) (by simp; omega)
  unfold Oper.wp
  simp [execOp, hop, resolve, invoke, builtin, hs, hx, hrun, Result.andThen]
  exact hK v' w' r1 r2
theorem push_below {w w1 W : World} {base n m B : Nat} {t : TypeId} {v : Value} {xs : List Value} {o : Obj} (h : w.ownsRow base t m v n xs) (hg : (w.alloc o).grownBy w1 v.ownBlock) (hb : Below B W w) (hBb : B ≤ base) (hB : base ≤ w.heap.size) : Below B W w1 :=
  (hb.alloc (by omega) o).grown hg (by simp; omega) fun k hk => Nat.le_trans hBb (h.lt k hk).1
theorem owns_set {w : World} {base n m c j : Nat} {t : TypeId} {v x : Value} {xs : List Value} (h : w.ownsRow base t m v n xs) (hc : c < base) : (w.setCell ⟨c, j, none⟩ x).ownsRow base t m v n xs := by
  obtain ⟨h0, h | ⟨g, cap, cur, hv, hg, hh, r⟩⟩ := h
  · exact ⟨h0, Or.inl h⟩
  · exact ⟨h0, Or.inr ⟨g, cap, cur, hv, hg, (Below.heap_setCell _ _ _ _ (by simp; omega)).trans hh, r⟩⟩
/-- What a stack that is being turned looks like. -/
structure Ts2 (B : Nat) (Y : World) (o a : Nat) (v : Value) (k : Nat) (xs : List Value) (W : World) : Prop where
  own : W.ownsRow (B + 3) 60 3 v k xs
  c0 : W.cell? ⟨B + 2, 0, none⟩ = some (.float .f64 o)
  c1 : W.cell? ⟨B + 2, 1, none⟩ = some (.float .f64 a)
  c2 : W.cell? ⟨B + 2, 2, none⟩ = some v
  fz : ∀ j, W.frozen? ⟨B + 2, j, none⟩ = false
  bel : Below (B + 2) Y W
  sz : B + 3 ≤ W.heap.size
theorem owns_form {w : World} {base n : Nat} {v : Value} {xs : List Value} (h : w.ownsRow base 60 3 v n xs) : ∃ ao cap, v = .slice ao n cap := by
  obtain ⟨h0, ⟨rfl, e⟩ | ⟨g, cap, cur, hv, _⟩⟩ := h
  · subst e
    exact ⟨_, _, rfl⟩
  · exact ⟨_, cap, hv⟩
theorem ts2_drew {B : Nat} {Y : World} {o a : Nat} {v : Value} {k : Nat} {xs : List Value} {W : World} (h : Hid (Ts2 B Y o a v k xs W)) : Hid (Ts2 B Y o a v k xs W.drew) := by
  have h' : Ts2 B Y o a v k xs W.drew := ⟨h.out.own, h.out.c0, h.out.c1, h.out.c2, h.out.fz, h.out.bel.drew, h.out.sz⟩
  exact h'
theorem frozen_set {W : World} {p q : Addr} {v : Value} : (W.setCell p v).frozen? q = W.frozen? q := by
  simp
set_option maxRecDepth 10000 in
set_option maxHeartbeats 3200000 in
theorem sTurnS_any {a o b n cap : Nat} {G : Nat → Fi} {w : World} (hn : n ≤ 1048576) (hs : SegV w b 60 n 3 (fun i j => fcell (G i) j)) :
    Calls Try.prog 25 #[Sv a o (.slice (some ⟨b, 0, none⟩) n cap)] w fun e w' => ∃ v, e = .returned (Sv o a v) ∧ OwV w' w.heap.size v n (fun i j => fcell (revG n G i) j) ∧ Below w.heap.size w w' := by
  have hst := st64
  obtain ⟨Y, hY⟩ : ∃ Y, Y = ((w.alloc (.cells #[.float .f64 a, .float .f64 o, .slice (some ⟨b, 0, none⟩) n cap] 30)).alloc (.cells #[.float .f64 0, .float .f64 0, .slice none 0 0] 30)).alloc (.cells #[.float .f64 o, .float .f64 a, .slice none 0 0] 30) := ⟨_, rfl⟩
  have BY : Hid (Below w.heap.size w Y ∧ SegV Y b 60 n 3 (fun i j => fcell (G i) j) ∧ b < w.heap.size) := by
    have h : Below w.heap.size w Y := by rw [hY]; exact (((Below.refl _ _).alloc (Nat.le_refl _) _).alloc (by simp) _).alloc (by simp <;> omega) _
    exact ⟨h, hs.below h, hs.lt⟩
  have hT : Hid (Ts2 w.heap.size Y o a (.slice none 0 0) 0 (rowL (fun i j => fcell (revG n G i) j) 0) Y) := by
    have h : Ts2 w.heap.size Y o a (.slice none 0 0) 0 (rowL (fun i j => fcell (revG n G i) j) 0) Y := by
      refine ⟨⟨by simp [rowL], Or.inl ⟨rfl, rfl⟩⟩, ?_, ?_, ?_, fun j => ?_, Below.refl _ _, ?_⟩
      · rw [hY]; exact cell_alloc_new (by simp) rfl
      · rw [hY]; exact cell_alloc_new (by simp) rfl
      · rw [hY]; exact cell_alloc_new (by simp) rfl
      · rw [hY]; exact frozen_new (by simp)
      · rw [hY]; simp
    exact h
  have x2 : ∀ W, Below (w.heap.size + 2) Y W → W.cell? ⟨w.heap.size, 2, none⟩ = some (.slice (some ⟨b, 0, none⟩) n cap) := fun W h => (h.cell (by simp)).trans (by rw [hY]; exact cell_alloc_old (cell_alloc_old (cell_alloc_new rfl rfl)))
  have y0 : ∀ W, Below (w.heap.size + 2) Y W → W.cell? ⟨w.heap.size + 1, 0, none⟩ = some (.float .f64 0) := fun W h => (h.cell (by simp)).trans (by rw [hY]; exact cell_alloc_old (cell_alloc_new (by simp) rfl))
  have y1 : ∀ W, Below (w.heap.size + 2) Y W → W.cell? ⟨w.heap.size + 1, 1, none⟩ = some (.float .f64 0) := fun W h => (h.cell (by simp)).trans (by rw [hY]; exact cell_alloc_old (cell_alloc_new (by simp) rfl))
  have y2 : ∀ W, Below (w.heap.size + 2) Y W → W.cell? ⟨w.heap.size + 1, 2, none⟩ = some (.slice none 0 0) := fun W h => (h.cell (by simp)).trans (by rw [hY]; exact cell_alloc_old (cell_alloc_new (by simp) rfl))
  have yf : ∀ W j, Below (w.heap.size + 2) Y W → W.frozen? ⟨w.heap.size + 1, j, none⟩ = false := fun W j h => (h.frozen (p := ⟨w.heap.size + 1, j, none⟩) (by simp)).trans (by rw [hY, frozen_old (by simp)]; exact frozen_new (by simp))
  have w2 := x2 Y (Below.refl _ _)
  clear hs
  go_enter Try.func25, Try.ntmps25
  go_upto_region 2 with fail
  rw [← hY]
  clear hY
  go_wp2_with fail
  clear w2
  go_loopw [4] (fun s4 wr => ∃ k : Nat, k ≤ n ∧ s4 = .int .i64 ((n : Int) - 1 - k) ∧ ∃ v, Hid (Ts2 w.heap.size Y o a v k (rowL (fun i j => fcell (revG n G i) j) k) wr)) (fun s4 _ => (intOf s4 + 1).toNat)
  case atStart => exact ⟨0, Nat.zero_le _, by simp, _, hT⟩
  case round =>
    obtain ⟨k, hk, rfl, v, HT⟩ := hrel
    have a2 := x2 _ HT.out.bel
    by_cases hkn : k < n
    · obtain ⟨m, hm⟩ : ∃ m : Nat, (m : Int) = (n : Int) - 1 - k := ⟨n - 1 - k, by omega⟩
      have hmn : m < n := by omega
      have em : m = n - 1 - k := by omega
      rw [← hm]
      have hmI : (m : Int) < n := by omega
      have hb2 : b < w.heap.size + 2 := by have := BY.out.2.2; omega
      have g0 : wr.cell? ⟨b, m * 3, none⟩ = some (.float .f64 (G m).i) := (HT.out.bel.cell hb2).trans (BY.out.2.1.cell hmn (show 0 < 3 by omega))
      have g1 : wr.cell? ⟨b, m * 3 + 1, none⟩ = some (.float .f64 (G m).k) := (HT.out.bel.cell hb2).trans (BY.out.2.1.cell hmn (show 1 < 3 by omega))
      have g2 : wr.cell? ⟨b, m * 3 + 2, none⟩ = some (.int .i64 (G m).t) := (HT.out.bel.cell hb2).trans (BY.out.2.1.cell hmn (show 2 < 3 by omega))
      have o2 := HT.out.c2
      have o2' : ∀ ob, (wr.alloc ob).cell? ⟨w.heap.size + 2, 2, none⟩ = some v := fun ob => cell_alloc_old o2
      have HM : Hid ((m : Int) = (n : Int) - 1 - k ∧ m = n - 1 - k) := ⟨hm, em⟩
      have hsz := HT.out.sz
      have hkI : (k : Int) ≤ 1048576 := by omega
      obtain ⟨vs, hvs⟩ : ∃ vs, vs = v := ⟨_, rfl⟩
      clear hm em hT x2 y0 y1 y2 yf hb2
      go_wp2_with fail
      go_region_law (first | (refine step_pushF rfl (.tmp 19) (.tmp 25) rfl wr.drew (.float .f64 (G m).i) (.float .f64 (G m).k) (.int .i64 (G m).t) rfl (by intro u hu; simp at hu; rcases hu with rfl | rfl | rfl <;> rfl) (w.heap.size + 3) v k (rowL (fun i j => fcell (revG n G i) j) k) (by simp [Act.eval]) (by exact HT.out.own) 1 (by simp [Act.eval]) (by omega) hsz ?_; intro v1 w1 hown1 hgrow1; obtain ⟨ao1, cp1, rfl⟩ := owns_form hown1; have hb1 : Below (w.heap.size + 3) wr w1 := push_below (w := wr.drew) (by exact HT.out.own) hgrow1 (Below.refl _ _).drew (Nat.le_refl _) hsz; have p2 : w1.cell? ⟨w.heap.size + 2, 2, none⟩ = some v := (hb1.cell (by simp)).trans o2; have pf : w1.frozen? ⟨w.heap.size + 2, 2, none⟩ = false := (hb1.frozen (p := ⟨w.heap.size + 2, 2, none⟩) (by simp)).trans (HT.out.fz 2)))
      all_goals
        have HN : Hid (Ts2 w.heap.size Y o a (.slice ao1 (k + 1) cp1) (k + 1) (rowL (fun i j => fcell (revG n G i) j) (k + 1)) (w1.setCell ⟨w.heap.size + 2, 2, none⟩ (.slice ao1 (k + 1) cp1))) := by
          have eg : revG n G k = G m := by unfold revG; rw [← HM.out.2]
          have h : Ts2 w.heap.size Y o a (.slice ao1 (k + 1) cp1) (k + 1) (rowL (fun i j => fcell (revG n G i) j) (k + 1)) (w1.setCell ⟨w.heap.size + 2, 2, none⟩ (.slice ao1 (k + 1) cp1)) := by
            refine ⟨?_, ?_, ?_, ?_, fun j => ?_, ?_, ?_⟩
            · refine owns_set ?_ (by omega)
              show w1.ownsRow (w.heap.size + 3) 60 3 (.slice ao1 (k + 1) cp1) (k + 1) (rowL (fun i j => fcell (revG n G i) j) k ++ [fcell (revG n G k) 0, fcell (revG n G k) 1, fcell (revG n G k) 2])
              rw [eg]
              exact hown1
            · rw [World.cell?_setCell_other _ _ _ _ (by simp)]
              exact (hb1.cell (by simp)).trans HT.out.c0
            · rw [World.cell?_setCell_other _ _ _ _ (by simp)]
              exact (hb1.cell (by simp)).trans HT.out.c1
            · exact World.cell?_setCell_same _ _ _ p2
            · rw [frozen_set]
              exact (hb1.frozen (p := ⟨w.heap.size + 2, j, none⟩) (by simp)).trans (HT.out.fz j)
            · exact (HT.out.bel.trans (hb1.mono (by omega))).setCell (by simp) _
            · have := hb1.size
              simp
              omega
          exact h
        clear hown1 hgrow1 hb1 p2 pf HT
        go_wp2
        refine ⟨⟨k + 1, by omega, by have := HM.out.1; congr 1; omega, _, by first | exact HN | exact ts2_drew HN⟩, by simp [intOf] <;> omega⟩
    · obtain rfl : k = n := by omega
      have o0 := HT.out.c0
      have o1 := HT.out.c1
      have o2 := HT.out.c2
      have q0 := y0 _ HT.out.bel
      have q1 := y1 _ HT.out.bel
      have q2 := y2 _ HT.out.bel
      have qf : ∀ j, wr.frozen? ⟨w.heap.size + 1, j, none⟩ = false := fun j => yf _ j HT.out.bel
      have h1 : ¬ ((0 : Int) ≤ (k : Int) - 1 - k) := by omega
      have HO : Hid (OwV wr (w.heap.size + 3) v k (fun i j => fcell (revG k G i) j) ∧ Below w.heap.size w wr) := ⟨owned_segV HT.out.own, BY.out.1.trans (HT.out.bel.mono (by omega))⟩
      obtain ⟨ao, cap', rfl⟩ := HO.out.1.form
      clear hT x2 y0 y1 y2 yf HT
      go_wp2
      refine bodyPost_ret (v := Sv o a (.slice ao k cap')) (by simp [results, Try.results25, go_sem, q0, q1, q2]) rfl ⟨_, rfl, ?_, ?_⟩
      · exact (((HO.out.1.setOther (by omega) _).setOther (by omega) _).setOther (by omega) _).lower (by omega)
      · exact ((HO.out.2.setCell (by simp) _).setCell (by simp) _).setCell (by simp) _
end Go.Proofs.Ytnpcldgacdgplaa
namespace Go.Proofs.Ytnpcldgacdgplaa
open Go.RowKit Fl
set_option linter.unusedVariables false
theorem OwV.lt {W : World} {lo : Nat} {v : Value} {n : Nat} {f : Nat → Nat → Value} (h : OwV W lo v n f) : ∀ g cap, v = .slice (some ⟨g, 0, none⟩) n cap → n ≠ 0 → lo ≤ g ∧ g < W.heap.size := by
  intro g cap hv h0
  rcases h with ⟨_, _, _, e⟩ | ⟨g', cap', rfl, hg, hs⟩
  · exact absurd e h0
  · simp only [Value.slice.injEq, Option.some.injEq, Addr.mk.injEq] at hv
    obtain ⟨⟨rfl, _, _⟩, _, _⟩ := hv
    exact ⟨hg, hs.lt⟩
theorem OwV.only {w w' : World} {lo b : Nat} {v : Value} {n : Nat} {f : Nat → Nat → Value} (h : OwV w lo v n f) (o : Only b w w') (hb : ∀ g cap, v = .slice (some ⟨g, 0, none⟩) n cap → n ≠ 0 → g ≠ b) : OwV w' lo v n f := by
  rcases h with h | ⟨g, cap, rfl, hg, hs⟩
  · exact Or.inl h
  · by_cases h0 : n = 0
    · subst h0; exact Or.inl ⟨_, _, rfl, rfl⟩
    · exact Or.inr ⟨g, cap, rfl, hg, o.seg hs (hb g cap rfl h0)⟩
theorem only_of_below {w w' : World} (h : Below w.heap.size w w') : Only w.heap.size w w' := ⟨h.os, h.tape, h.output, h.size, fun k hk _ => h.block k hk⟩
theorem markSt_own2 {a o lo hi : Nat} {v : Value} {n : Nat} {f : Nat → Nat → Value} {w : World} (hn : n ≤ 1048576) (hlo : lo ≤ w.heap.size) (h : OwV w lo v n f) (hh : ∀ g cap, v = .slice (some ⟨g, 0, none⟩) n cap → n ≠ 0 → g < hi) :
    Calls Try.prog 27 #[Sv a o v, .int .i64 1] w fun e w' => e = .returned (.int .i64 (1 + 3 * n)) ∧ OwV w' lo v n (fun i j => fcell (mfilm 1 i) j) ∧ ∃ g, Only g w w' ∧ lo ≤ g ∧ (g < hi ∨ w.heap.size ≤ g) := by
  have h' := h
  rcases h with ⟨ao, cap, rfl, rfl⟩ | ⟨g, cap, rfl, hg, hs⟩
  · refine (markSt_none ao cap w).mono ?_
    rintro e w' ⟨rfl, b⟩
    exact ⟨rfl, Or.inl ⟨_, _, rfl, rfl⟩, _, only_of_below b, hlo, Or.inr (Nat.le_refl _)⟩
  · by_cases h0 : n = 0
    · subst h0
      refine (markSt_none _ cap w).mono ?_
      rintro e w' ⟨rfl, b⟩
      exact ⟨rfl, Or.inl ⟨_, _, rfl, rfl⟩, _, only_of_below b, hlo, Or.inr (Nat.le_refl _)⟩
    · refine (markSt_seg hn hs).mono ?_
      rintro e w' ⟨rfl, s, o⟩
      exact ⟨rfl, Or.inr ⟨g, cap, rfl, hg, s⟩, g, o, hg, Or.inl (hh g cap rfl h0)⟩
end Go.Proofs.Ytnpcldgacdgplaa
