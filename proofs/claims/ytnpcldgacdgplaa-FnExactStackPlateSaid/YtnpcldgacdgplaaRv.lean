/- A list of films cloned, and turned end to end: contracts of the library's Clone and Reverse at films. -/
import Derived.Test.YtnpcldgacdgplaaTs
import Derived.BigRegion
import Derived.OwnWalk
import Derived.Laws.AppendOwn
import Derived.Laws.CopyOwn
import Derived.WalkLawsBesides
namespace Go.Proofs.Ytnpcldgacdgplaa
open Go.RowKit Fl
set_option linter.unusedVariables false
set_option linter.unusedSimpArgs false
/-- The cells of n films, one behind the other. -/
def rowL (f : Nat → Nat → Value) : Nat → List Value
  | 0 => []
  | n + 1 => rowL f n ++ [f n 0, f n 1, f n 2]
theorem rowL_len (f : Nat → Nat → Value) : ∀ n, (rowL f n).length = n * 3
  | 0 => rfl
  | n + 1 => by simp only [rowL, List.length_append, rowL_len f n, List.length_cons, List.length_nil]; omega
theorem rowL_get (f : Nat → Nat → Value) : ∀ n i, i < n → ∀ j, j < 3 → (rowL f n)[i * 3 + j]? = some (f i j)
  | 0, i, hi, _, _ => by omega
  | n + 1, i, hi, j, hj => by
    simp only [rowL]
    by_cases e : i = n
    · subst e
      rw [List.getElem?_append_right (by rw [rowL_len]; omega), rowL_len, show i * 3 + j - i * 3 = j by omega]
      match j, hj with
      | 0, _ => rfl
      | 1, _ => rfl
      | 2, _ => rfl
    · rw [List.getElem?_append_left (by rw [rowL_len]; omega)]
      exact rowL_get f n i (by omega) j hj
theorem rowL_all {f : Nat → Nat → Value} {p : Value → Prop} (h : ∀ i j, p (f i j)) : ∀ n, ∀ u ∈ rowL f n, p u
  | 0, u, hu => by simp [rowL] at hu
  | n + 1, u, hu => by
    simp only [rowL, List.mem_append, List.mem_cons, List.not_mem_nil, or_false] at hu
    rcases hu with hu | rfl | rfl | rfl
    · exact rowL_all h n u hu
    · exact h _ _
    · exact h _ _
    · exact h _ _
theorem rowL_congr {f g : Nat → Nat → Value} : ∀ n, (∀ i, i < n → ∀ j, j < 3 → f i j = g i j) → rowL f n = rowL g n
  | 0, _ => rfl
  | n + 1, h => by simp only [rowL]; rw [rowL_congr n fun i hi => h i (by omega), h n (by omega) 0 (by omega), h n (by omega) 1 (by omega), h n (by omega) 2 (by omega)]
theorem fcell_one (g : Fi) (j : Nat) : (fcell g j).oneCell' = true := by
  unfold fcell
  split
  · rfl
  · split <;> rfl
theorem info_parts {e : TypeId} {z : Value} {m bytes : Nat} (h : (Try.prog.info? e).map (fun i => (i.zero, i.size, i.bytes)) = some (some z, m, bytes)) :
    ∃ i, Try.prog.info? e = some i ∧ i.zero = some z ∧ i.size = m ∧ i.bytes = bytes := by
  obtain ⟨i, hi, e⟩ := Option.map_eq_some_iff.1 h
  simp only [Prod.mk.injEq] at e
  exact ⟨i, hi, e.1, e.2.1, e.2.2⟩
/-- A list of films of a call's own: none, or in a block from lo on. -/
def OwV (W : World) (lo : Nat) (v : Value) (n : Nat) (f : Nat → Nat → Value) : Prop :=
  (∃ ao cap, v = .slice ao 0 cap ∧ n = 0) ∨ ∃ g cap, v = .slice (some ⟨g, 0, none⟩) n cap ∧ lo ≤ g ∧ SegV W g 60 n 3 f
theorem OwV.rd {W : World} {lo : Nat} {v : Value} {n : Nat} {f : Nat → Nat → Value} (h : OwV W lo v n f) : RdV W v n 3 f := by
  rcases h with ⟨ao, cap, rfl, rfl⟩ | ⟨g, cap, rfl, _, hs⟩
  · exact Or.inl ⟨ao, cap, rfl, rfl⟩
  · exact hs.rd
theorem OwV.later {W W' : World} {lo : Nat} {v : Value} {n : Nat} {f : Nat → Nat → Value} (h : OwV W lo v n f) (hb : Below W.heap.size W W') : OwV W' lo v n f := by
  rcases h with ⟨ao, cap, rfl, rfl⟩ | ⟨g, cap, rfl, hg, hs⟩
  · exact Or.inl ⟨ao, cap, rfl, rfl⟩
  · exact Or.inr ⟨g, cap, rfl, hg, hs.below hb⟩
theorem OwV.form {W : World} {lo : Nat} {v : Value} {n : Nat} {f : Nat → Nat → Value} (h : OwV W lo v n f) : ∃ ao cap, v = .slice ao n cap := h.rd.form
theorem owned_segV {w : World} {base n : Nat} {v : Value} {f : Nat → Nat → Value} (h : w.ownsRow base 60 3 v n (rowL f n)) : OwV w base v n f := by
  obtain ⟨_, h | ⟨g, cap, cur, hv, hg, hh, h1, h2, h3, h4⟩⟩ := h
  · obtain ⟨rfl, e⟩ := h
    have : n = 0 := by
      have := rowL_len f n
      simp [e] at this
      omega
    subst this
    exact Or.inl ⟨_, _, rfl, rfl⟩
  · refine Or.inr ⟨g, cap, hv, hg, cur, hh, fun i hi j hj => ?_⟩
    have h5 := rowL_get f n i hi j hj
    rw [← h4, List.getElem?_take_of_lt (by omega), Array.getElem?_toList] at h5
    exact h5
theorem owns_empty (w : World) (t : TypeId) (m : Nat) : (w.alloc (.cells #[] t)).ownsRow w.heap.size t m (.slice (some ⟨w.heap.size, 0, none⟩) 0 0) 0 [] :=
  ⟨by simp, Or.inr ⟨w.heap.size, 0, #[], rfl, Nat.le_refl _, by show (w.heap.push _)[w.heap.size]? = _; simp, Nat.le_refl _, Nat.zero_le _, by simp, by simp⟩⟩
/-- 'append(row, part...)' of films, to a row that the call itself has built. -/
theorem appF_law {ops : Array Oper} {rest : List Oper} {o : Oper} {a : Act} {Q : Exit → Act → World → Prop} (hgd : o.guard = none) (s x : Operand)
    (ho : o.op = .call { callee := .builtin .append, args := #[s, x], argTypes := #[28, 28] }) (w : World) (base : Nat) (v : Value) (n : Nat) (xs : List Value) (b off m cap : Nat) (G : Nat → Fi) (hs : a.eval s = v) (hown : w.ownsRow base 60 3 v n xs) (hx : a.eval x = .slice (some ⟨b, off, none⟩) m cap)
    (hn : n + m ≤ 1000000000) (hbase : base ≤ w.heap.size) (hc : ∀ i, i < m → ∀ j, j < 3 → w.cell? ⟨b, off + i * 3 + j, none⟩ = some (fcell (G i) j))
    (h : ∀ v' w', w'.ownsRow base 60 3 v' (n + m) (xs ++ rowL (fun i j => fcell (G i) j) m) → w.grownBy w' v.ownBlock → wpList Try.prog ops Q rest (a.put o.dst v') w') : wpList Try.prog ops Q (o :: rest) a w := by
  obtain ⟨i, h1, h2, h3, h4⟩ := info_parts info60
  refine wpList_append_own _ hgd s x 28 ho base 60 i (.agg #[.float .f64 0, .float .f64 0, .int .i64 0]) 3 24 Try.underlying28 h1 h2 h3 h4 rfl (by decide) v n xs hs hown ⟨b, off, none⟩ m cap (rowL (fun i j => fcell (G i) j) m) hx (rowL_len _ _) ?_ ?_ ?_ ?_ hbase fun v' w' a1 a2 a3 => h v' w' a1 a2
  · intro k y hk
    have hkn : k < m * 3 := by
      have := (List.getElem?_eq_some_iff.1 hk).1
      rwa [rowL_len] at this
    have e1 : k / 3 * 3 + k % 3 = k := by omega
    have := rowL_get (fun i j => fcell (G i) j) m (k / 3) (by omega) (k % 3) (by omega)
    rw [e1, hk] at this
    have e2 := Option.some.inj this
    subst e2
    have e0 : (⟨b, off, none⟩ : Addr).add k = ⟨b, off + k, none⟩ := by
      unfold Addr.add
      split
      · rename_i h; subst h; rfl
      · rfl
    rw [e0]
    have := hc (k / 3) (by omega) (k % 3) (by omega)
    rw [show off + k / 3 * 3 + k % 3 = off + k by omega] at this
    exact this
  · exact rowL_all (fun i j => fcell_one _ _) m
  · unfold maxLen; omega
  · omega
set_option maxRecDepth 100000 in
set_option maxHeartbeats 1600000 in
theorem clone_some (b off n cap : Nat) (G : Nat → Fi) (w : World) (hn : n ≤ 1000000000) (hc : ∀ i, i < n → ∀ j, j < 3 → w.cell? ⟨b, off + i * 3 + j, none⟩ = some (fcell (G i) j)) :
    Calls Try.prog 61 #[.slice (some ⟨b, off, none⟩) n cap] w fun e w' => ∃ v, e = .returned v ∧ OwV w' w.heap.size v n (fun i j => fcell (G i) j) ∧ Below w.heap.size w w' := by
  have q28 : ∀ (w : World), (binOp .eql 28 (.slice (some ⟨b, off, none⟩) n cap) (.slice none 0 0)).run Try.prog w = .ok (.bool false) w := fun w => run_eql_nil_slice w 28 60 (some ⟨b, off, none⟩) n cap 0 0 Try.underlying28
  have HC : Hid (∀ i, i < n → ∀ j, j < 3 → (w.alloc (.cells #[] 60)).cell? ⟨b, off + i * 3 + j, none⟩ = some (fcell (G i) j)) := fun i hi j hj => alloc_keeps (hc i hi j hj)
  clear hc
  go_enter Try.func61, Try.ntmps61
  go_wp2_with (first | (at_builtin; refine appF_law rfl (.tmp 5) (.tmp 6) rfl (w.alloc (.cells #[] 60)) w.heap.size _ 0 [] b off n cap G rfl (owns_empty w 60 3) rfl (by omega) (by simp) HC.out ?_; intro v1 w1 own1 grow1))
  have HS : Hid (OwV w1 w.heap.size v1 n (fun i j => fcell (G i) j) ∧ Below w.heap.size w w1) := by
    rw [Nat.zero_add, List.nil_append] at own1
    refine ⟨owned_segV own1, ?_⟩
    exact ((Below.refl _ _).alloc (Nat.le_refl _) _).grown grow1 (by simp) (fun k hk => ((owns_empty w 60 3).lt k hk).1)
  clear own1 grow1
  go_wp2
  go_ret
  exact ⟨_, rfl, HS.out⟩
/-- Which film stands at a place when k pairs have been changed about. -/
def swp (n k : Nat) (G : Nat → Fi) (i : Nat) : Fi := if i < k ∨ n - 1 - k < i then G (n - 1 - i) else G i
theorem swp_zero {n : Nat} {G : Nat → Fi} {i : Nat} (hi : i < n) : swp n 0 G i = G i := by unfold swp; rw [if_neg (by omega)]
theorem SegV.drew {w : World} {b : Nat} {t : TypeId} {n m : Nat} {f : Nat → Nat → Value} (h : SegV w b t n m f) : SegV w.drew b t n m f := h.of_block rfl
theorem SegV.put3 {w : World} {b : Nat} {t : TypeId} {n : Nat} {f : Nat → Nat → Value} (h : SegV w b t n 3 f) {k : Nat} (hk : k < n) (x0 x1 x2 : Value) :
    SegV (((w.setCell ⟨b, k * 3, none⟩ x0).setCell ⟨b, k * 3 + 1, none⟩ x1).setCell ⟨b, k * 3 + 2, none⟩ x2) b t n 3 (fun i j => if i = k then (if j = 0 then x0 else if j = 1 then x1 else x2) else f i j) := by
  have t0 := h.set hk (show 0 < 3 by omega) x0
  rw [Nat.add_zero] at t0
  have t1 := t0.set hk (show 1 < 3 by omega) x1
  have t2 := t1.set hk (show 2 < 3 by omega) x2
  refine t2.congr fun i hi j hj => ?_
  by_cases c : i = k
  · subst c
    match j, hj with
    | 0, _ => simp
    | 1, _ => simp
    | 2, _ => simp
  · simp [c]
theorem below_put3 {lo : Nat} {X w : World} {b : Nat} (h : Below lo X w) (hlo : lo ≤ b) (k : Nat) (x0 x1 x2 : Value) : Below lo X (((w.setCell ⟨b, k * 3, none⟩ x0).setCell ⟨b, k * 3 + 1, none⟩ x1).setCell ⟨b, k * 3 + 2, none⟩ x2) :=
  ((h.setCell hlo _).setCell hlo _).setCell hlo _
/-- Two films changed about. -/
theorem swap_step {w X : World} {g n lo k m : Nat} {G : Nat → Fi} (h : SegV w g 60 n 3 (fun i j => fcell (swp n k G i) j)) (hB : Below lo X w) (hlo : lo ≤ g) (hkm : k + m = n - 1) (hlt : k < m) (hn : 0 < n) {x y : Fi} (hx : x = swp n k G k) (hy : y = swp n k G m) :
    SegV ((((((w.setCell ⟨g, k * 3, none⟩ (.float .f64 y.i)).setCell ⟨g, k * 3 + 1, none⟩ (.float .f64 y.k)).setCell ⟨g, k * 3 + 2, none⟩ (.int .i64 y.t)).setCell ⟨g, m * 3, none⟩ (.float .f64 x.i)).setCell ⟨g, m * 3 + 1, none⟩ (.float .f64 x.k)).setCell ⟨g, m * 3 + 2, none⟩ (.int .i64 x.t)).drew g 60 n 3 (fun i j => fcell (swp n (k + 1) G i) j) ∧
      Below lo X ((((((w.setCell ⟨g, k * 3, none⟩ (.float .f64 y.i)).setCell ⟨g, k * 3 + 1, none⟩ (.float .f64 y.k)).setCell ⟨g, k * 3 + 2, none⟩ (.int .i64 y.t)).setCell ⟨g, m * 3, none⟩ (.float .f64 x.i)).setCell ⟨g, m * 3 + 1, none⟩ (.float .f64 x.k)).setCell ⟨g, m * 3 + 2, none⟩ (.int .i64 x.t)).drew := by
  refine ⟨SegV.drew (((h.put3 (show k < n by omega) _ _ _).put3 (show m < n by omega) _ _ _).congr fun i hi j hj => ?_), (below_put3 (below_put3 hB hlo k _ _ _) hlo m _ _ _).drew⟩
  have ex : x = G k := by rw [hx]; unfold swp; rw [if_neg (by omega)]
  have ey : y = G m := by rw [hy]; unfold swp; rw [if_neg (by omega)]
  show (if i = m then (if j = 0 then Value.float .f64 x.i else if j = 1 then .float .f64 x.k else .int .i64 x.t) else if i = k then (if j = 0 then Value.float .f64 y.i else if j = 1 then .float .f64 y.k else .int .i64 y.t) else fcell (swp n k G i) j) = fcell (swp n (k + 1) G i) j
  by_cases c1 : i = m
  · subst c1
    have e1 : swp n (k + 1) G i = G k := by unfold swp; rw [if_pos (by omega)]; congr 1; omega
    rw [if_pos rfl, e1, ex]
    rfl
  · rw [if_neg c1]
    by_cases c2 : i = k
    · subst c2
      have e1 : swp n (i + 1) G i = G m := by unfold swp; rw [if_pos (by omega)]; congr 1; omega
      rw [if_pos rfl, e1, ey]
      rfl
    · have e1 : swp n (k + 1) G i = swp n k G i := by
        unfold swp
        by_cases c : i < k ∨ n - 1 - k < i
        · rw [if_pos c, if_pos (by omega)]
        · rw [if_neg c, if_neg (by omega)]
      rw [if_neg c2, e1]
set_option maxRecDepth 100000 in
set_option maxHeartbeats 3200000 in
theorem reverse_some (g n cap : Nat) (G : Nat → Fi) (lo : Nat) (X w : World) (hn0 : 0 < n) (hn : n ≤ 1000000000) (hs : SegV w g 60 n 3 (fun i j => fcell (G i) j)) (hB : Below lo X w) (hlo : lo ≤ g) :
    Calls Try.prog 62 #[.slice (some ⟨g, 0, none⟩) n cap] w fun e w' => e = .returned (.tuple #[]) ∧ SegV w' g 60 n 3 (fun i j => fcell (G (n - 1 - i)) j) ∧ Below lo X w' := by
  have HS : Hid (SegV w g 60 n 3 (fun i j => fcell (G i) j) ∧ Below lo X w ∧ lo ≤ g) := ⟨hs, hB, hlo⟩
  have hst := st64
  clear hs hB hlo
  have e0 : ((n : Int) - 1) = ((n - 1 : Nat) : Int) := by omega
  go_enter Try.func62, Try.ntmps62
  go_wp2_with fail
  go_loopw [2, 3] (fun s2 s3 wr => ∃ k m : Nat, k + m = n - 1 ∧ k ≤ m + 1 ∧ s2 = .int .i64 k ∧ s3 = .int .i64 m ∧ Hid (SegV wr g 60 n 3 (fun i j => fcell (swp n k G i) j) ∧ Below lo X wr)) (fun s2 s3 _ => (intOf s3).toNat)
  case atStart =>
    refine ⟨0, n - 1, by omega, by omega, rfl, by rw [← e0], ?_⟩
    exact ⟨HS.out.1.congr fun i hi j _ => by rw [swp_zero hi], HS.out.2.1⟩
  case round =>
    obtain ⟨k, m, hkm, hk1, rfl, rfl, HH⟩ := hrel
    by_cases hlt : k < m
    · have hltz : (k : Int) < (m : Int) := by omega
      have hk : k < n := by omega
      have hm : m < n := by omega
      have a0 := HH.out.1.cell hk (show 0 < 3 by omega)
      have a1 := HH.out.1.cell hk (show 1 < 3 by omega)
      have a2 := HH.out.1.cell hk (show 2 < 3 by omega)
      have b0 := HH.out.1.cell hm (show 0 < 3 by omega)
      have b1 := HH.out.1.cell hm (show 1 < 3 by omega)
      have b2 := HH.out.1.cell hm (show 2 < 3 by omega)
      have fz : ∀ j, wr.frozen? ⟨g, j, none⟩ = false := fun j => HH.out.1.frozen j
      simp only [fcell_0, fcell_1, fcell_2, Nat.add_zero] at a0 a1 a2 b0 b1 b2
      have hmk : (m : Int) - 1 = ((m - 1 : Nat) : Int) := by omega
      have hn' : (n : Int) ≤ 1000000000 := by omega
      have ne1 : ¬ k * 3 = m * 3 := by omega
      have nz : ∀ (s t : Nat), s < 3 → t < 3 → ¬ k * 3 + s = m * 3 + t := fun s t h1 h2 => by omega
      have n01 : ¬ k * 3 = m * 3 + 1 := by omega
      have n02 : ¬ k * 3 = m * 3 + 2 := by omega
      have n10 : ¬ k * 3 + 1 = m * 3 := by omega
      have n11 : ¬ k * 3 + 1 = m * 3 + 1 := by omega
      have n12 : ¬ k * 3 + 1 = m * 3 + 2 := by omega
      have n20 : ¬ k * 3 + 2 = m * 3 := by omega
      have n21 : ¬ k * 3 + 2 = m * 3 + 1 := by omega
      have n22 : ¬ k * 3 + 2 = m * 3 + 2 := by omega
      have hlt' := hlt
      clear hlt hn
      obtain ⟨x, hx⟩ : ∃ x, x = swp n k G k := ⟨_, rfl⟩
      obtain ⟨y, hy⟩ : ∃ y, y = swp n k G m := ⟨_, rfl⟩
      rw [← hx] at a0 a1 a2
      rw [← hy] at b0 b1 b2
      have HW : Hid (SegV ((((((wr.setCell ⟨g, k * 3, none⟩ (.float .f64 y.i)).setCell ⟨g, k * 3 + 1, none⟩ (.float .f64 y.k)).setCell ⟨g, k * 3 + 2, none⟩ (.int .i64 y.t)).setCell ⟨g, m * 3, none⟩ (.float .f64 x.i)).setCell ⟨g, m * 3 + 1, none⟩ (.float .f64 x.k)).setCell ⟨g, m * 3 + 2, none⟩ (.int .i64 x.t)).drew g 60 n 3 (fun i j => fcell (swp n (k + 1) G i) j) ∧
          Below lo X ((((((wr.setCell ⟨g, k * 3, none⟩ (.float .f64 y.i)).setCell ⟨g, k * 3 + 1, none⟩ (.float .f64 y.k)).setCell ⟨g, k * 3 + 2, none⟩ (.int .i64 y.t)).setCell ⟨g, m * 3, none⟩ (.float .f64 x.i)).setCell ⟨g, m * 3 + 1, none⟩ (.float .f64 x.k)).setCell ⟨g, m * 3 + 2, none⟩ (.int .i64 x.t)).drew) := by
        exact swap_step HH.out.1 HH.out.2 HS.out.2.2 hkm hlt' hn0 hx hy
      clear hx hy HH hlt'
      go_wp2
      go_region
      go_wp2
      go_roundw
      case rel => exact ⟨k + 1, m - 1, by omega, by omega, by simp, by rw [← hmk], HW⟩
      case measure => simp [intOf]; omega
    · have hltz : ¬ (k : Int) < (m : Int) := by omega
      go_wp2
      go_returns
      refine ⟨rfl, ?_, HH.out.2⟩
      refine HH.out.1.congr fun i hi j hj => ?_
      unfold swp
      by_cases c : i < k ∨ n - 1 - k < i
      · rw [if_pos c]
      · rw [if_neg c, show n - 1 - i = i by omega]
end Go.Proofs.Ytnpcldgacdgplaa
