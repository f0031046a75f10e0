/- The same where there is no room: a new row: a contract. -/
import Derived.Test.YtclnmikneomccaaIr
namespace Go.Proofs.Ytclnmikneomccaa
open Go.RowKit Go.Maps Go.Lib
set_option linter.unusedVariables false
set_option linter.unusedSimpArgs false
theorem grow_list {R F xs : List Value} {n i : Nat} (hF : F.length = n * 5) (hx : xs.length = 5) (hi : i < n) (hL : (n + 1) * 5 ≤ R.length) (ht : R.take (i * 5) = F.take (i * 5)) :
    (splice (splice R (i * 5) xs) ((i + 1) * 5) (F.drop (i * 5))).take ((n + 1) * 5) = F.take (i * 5) ++ (xs ++ F.drop (i * 5)) := by
  have hD : (F.drop (i * 5)).length = n * 5 - i * 5 := by rw [List.length_drop, hF]
  have h1 : (F.take (i * 5)).length = i * 5 := by rw [List.length_take]; omega
  have e1 : (splice R (i * 5) xs).take ((i + 1) * 5) = F.take (i * 5) ++ xs := by
    unfold splice
    rw [ht, ← List.append_assoc]
    exact List.take_left' (by rw [List.length_append, h1, hx]; omega)
  rw [show splice (splice R (i * 5) xs) ((i + 1) * 5) (F.drop (i * 5)) = (splice R (i * 5) xs).take ((i + 1) * 5) ++ (F.drop (i * 5) ++ (splice R (i * 5) xs).drop ((i + 1) * 5 + (F.drop (i * 5)).length)) from rfl, e1]
  rw [List.append_assoc, ← List.append_assoc xs, ← List.append_assoc]
  refine (List.take_left' ?_)
  rw [List.length_append, List.length_append, h1, hD, hx]
  omega
set_option maxRecDepth 100000 in
set_option maxHeartbeats 6400000 in
theorem iInsert_grow {w : World} {lo g vb n cap i : Nat} {S : Nat → R.G} {x : R.G} {L : List Value} (hg : w.heap[g]? = some (.cells L.toArray 68 (0, 0))) (hlo : lo ≤ g) (hL : L.length = cap * 5) (ht : L.take (n * 5) = flat (fun j => R.spl (S j)) n) (hb : Blk w vb #[.int .i64 x.ly, .int .i64 x.xa, .int .i64 x.ya, .int .i64 x.xb, .int .i64 x.yb] 68) (hi : i < n) (hn : n ≤ 1048576) (hroom : cap = n) :
    Calls Try.prog 76 #[.slice (some ⟨g, 0, none⟩) n cap, .int .i64 (i : Int), .slice (some ⟨vb, 0, none⟩) 1 1] w fun e w' => ∃ q G, e = .returned (.slice (some ⟨q, 0, none⟩) (n + 1) G) ∧ lo ≤ q ∧ n + 1 ≤ G ∧ G ≤ maxLen ∧ (∃ L' : List Value, w'.heap[q]? = some (.cells L'.toArray 68 (0, 0)) ∧ L'.length = G * 5 ∧ L'.take ((n + 1) * 5) = flat (fun j => R.spl (ins S i x j)) (n + 1)) ∧ Below lo w w' := by
  subst hroom
  have hz2 : ¬ ((i : Int) = (cap : Int)) := by omega
  have hw1 : wrap64 ((i : Int) + 1) = (i : Int) + 1 := by unfold wrap64; omega
  have hb1 : (0 : Int) ≤ (i : Int) + 1 := by omega
  have hin : i ≤ cap := by omega
  have htn : ((i : Int) + 1).toNat = i + 1 := by omega
  have hb3 : (i : Int) ≤ (cap : Int) + 1 := by omega
  have hb4 : ¬ (cap = i) := by omega
  obtain ⟨i0, hi0, hz0, hzs, hzb⟩ := infoV_parts R.infoE
  have hFl : (flat (fun j => R.spl (S j)) cap).length = cap * 5 := flat_len (m := 5) (fun _ => rfl) _
  obtain ⟨F, hF⟩ : ∃ F, F = flat (fun j => R.spl (S j)) cap := ⟨_, rfl⟩
  rw [← hF] at hFl ht
  have hLF : L = F := by rw [← ht, ← hL]; exact (List.take_length).symm
  subst hLF
  obtain ⟨G, hG⟩ : ∃ G, G = grownCap w (cap + 1) cap 68 := ⟨_, rfl⟩
  obtain ⟨q, hq⟩ : ∃ q, q = w.heap.size := ⟨_, rfl⟩
  have hgq : g < q := by rw [hq]; exact (Array.getElem?_eq_some_iff.1 hg).1
  obtain ⟨RR, hRR⟩ : ∃ RR : List Value, RR = ((L.take (i * 5)).toArray ++ Builtin.zeroCells (Value.agg #[.int .i64 0, .int .i64 0, .int .i64 0, .int .i64 0, .int .i64 0]).cells (cap + 1 - i) ++ Builtin.zeroCells (Value.agg #[.int .i64 0, .int .i64 0, .int .i64 0, .int .i64 0, .int .i64 0]).cells (G - (cap + 1))).toList := ⟨_, rfl⟩
  obtain ⟨W1, hW1⟩ : ∃ W, W = w.drew.alloc (.cells RR.toArray 68) := ⟨_, rfl⟩
  have hGe : cap + 1 ≤ G := by rw [hG]; exact grownCap_ge w _ _ _
  have hGm : G ≤ maxLen := by rw [hG]; exact grownCap_le_maxLen w (cap + 1) cap 68 (by unfold maxLen; omega)
  have hkk : (cap : Int) + 1 - (i : Int) = ((cap + 1 - i : Nat) : Int) := by omega
  have hold : (Builtin.firstCells i0.size i (.slice (some ⟨g, 0, none⟩) i cap)).run Try.prog w.drew = .ok (L.take (i * 5)).toArray w.drew := by
    rw [hzs]
    exact run_firstCells_some w.drew 5 i ⟨g, 0, none⟩ i cap (L.take (i * 5)) (by rw [List.length_take]; omega) (fun j v hj => by
      rw [List.getElem?_take] at hj
      split at hj
      · exact cell_row (o := 0) hg (by rw [Nat.zero_add]; exact hj)
      · cases hj)
  have hrz : ∀ ty, (Builtin.append_ #[25, 3] ty #[.slice (some ⟨g, 0, none⟩) i cap, .int .i64 ((cap : Int) + 1 - (i : Int))]).run Try.prog w = .ok (.slice (some ⟨q, 0, none⟩) (cap + 1) G) W1 := fun ty => by
    have h := Lib.run_append_grow_zeros w 25 3 ty 68 i0 _ .i64 .i64 Try.underlying25 Try.underlying3 hi0 hz0 (some ⟨g, 0, none⟩) i cap (L.take (i * 5)) hold (cap + 1 - i) (by omega) (by omega) (by omega) (by omega) (by rw [hzb]; omega) (by rw [hzb, show i + (cap + 1 - i) = cap + 1 by omega]; exact growslice_fits (by omega) (by omega))
    rw [show i + (cap + 1 - i) = cap + 1 by omega, ← hG] at h
    rw [hkk, hW1, hRR, hq, Array.toArray_toList]
    exact h
  have hRl : RR.length = G * 5 := by
    rw [hRR]
    simp [Builtin.zeroCells, Value.cells]
    omega
  have hRt : RR.take (i * 5) = L.take (i * 5) := by
    rw [hRR]
    simp only [Array.toList_append, List.append_assoc]
    exact List.take_left' (by rw [List.length_take]; omega)
  have hWb : Below lo w W1 := by rw [hW1]; exact ((Below.refl lo w).drew).alloc (by show lo ≤ w.heap.size; omega) _
  have hWq : W1.heap[q]? = some (.cells RR.toArray 68 (0, 0)) := by rw [hW1, hq]; exact heap_alloc_new w.drew _
  have hWg : W1.heap[g]? = some (.cells L.toArray 68 (0, 0)) := by rw [hW1]; exact (heap_alloc_old w.drew _ (by show g < w.heap.size; omega)).trans hg
  have hWv : Blk W1 vb #[.int .i64 x.ly, .int .i64 x.xa, .int .i64 x.ya, .int .i64 x.xb, .int .i64 x.yb] 68 := by rw [hW1]; exact Blk.alloc (W := w.drew) hb _
  have hvq : vb < q := by rw [hq]; exact hb.lt
  have hb2 : ¬ (G = i + 1) := Nat.ne_of_gt (Nat.lt_of_lt_of_le (Nat.succ_lt_succ hi) hGe)
  have hb5 : ¬ (G = i) := Nat.ne_of_gt (Nat.lt_of_lt_of_le (Nat.lt_succ_of_lt hi) hGe)
  have hmx : G ≤ 9223372036854775807 := Nat.le_trans hGm (by unfold maxLen; decide)
  have HG : Hid (W1.heap[q]? = some (.cells RR.toArray 68 (0, 0)) ∧ lo ≤ q ∧ RR.length = G * 5 ∧ RR.take (i * 5) = L.take (i * 5) ∧ Blk W1 vb #[.int .i64 x.ly, .int .i64 x.xa, .int .i64 x.ya, .int .i64 x.xb, .int .i64 x.yb] 68 ∧ W1.heap[g]? = some (.cells L.toArray 68 (0, 0)) ∧ Below lo w W1 ∧ G ≤ maxLen ∧ g ≠ q ∧ vb ≠ q ∧ L.length = cap * 5 ∧ L = flat (fun j => R.spl (S j)) cap) := ⟨hWq, Nat.le_trans hlo (Nat.le_of_lt hgq), hRl, hRt, hWv, hWg, hWb, hGm, Nat.ne_of_lt hgq, Nat.ne_of_lt hvq, hFl, hF⟩
  clear hWq hRl hRt hWv hWg hWb hGm hgq hvq hFl hF hold hRR hW1 hG hq hg hlo hL ht hb hi0 hz0 hzs hzb hkk
  go_enter Try.func76, Try.ntmps76
  go_upto_region 10 with (first | (at_builtin; refine Lib.wpList_append_run _ rfl _ _ _ _ rfl _ _ rfl rfl _ _ (hrz _) ?_))
  have hn6 : (R.spl x).length = Nat.min 1 (cap + 1 - i) * 5 := by
    have e : Nat.min 1 (cap + 1 - i) = 1 := by simp only [Nat.min_def]; split <;> omega
    rw [e]
    rfl
  have hs6 : ∀ j v, (R.spl x)[j]? = some v → W1.cell? ((⟨vb, 0, none⟩ : Addr).add j) = some v := fun j v hj => cell_row (L := R.spl x) (o := 0) (show W1.heap[vb]? = _ from HG.out.2.2.2.2.1) (by rw [Nat.zero_add]; exact hj)
  have hf6 : i * 5 + (R.spl x).length ≤ RR.length := by
    rw [HG.out.2.2.1]
    simp only [R.spl, List.length_cons, List.length_nil]
    omega
  have H6 : Hid ((R.spl x).length = Nat.min 1 (cap + 1 - i) * 5 ∧ (∀ j v, (R.spl x)[j]? = some v → W1.cell? ((⟨vb, 0, none⟩ : Addr).add j) = some v) ∧ i * 5 + (R.spl x).length ≤ RR.length) := ⟨hn6, hs6, hf6⟩
  clear hn6 hs6 hf6 hrz
  go_upto_region 11 with (first | (refine wpList_copyV rfl (.tmp 43) (.tmp 44) 25 25 rfl 68 5 Try.underlying25 sz68 q (i * 5) (cap + 1 - i) (G - i) ⟨vb, 0, none⟩ 1 1 (by simp [Act.eval]) (by simp [Act.eval]) RR 68 HG.out.1 (R.spl x) H6.out.1 H6.out.2.1 H6.out.2.2 (fun v hv => spl_one v hv) lo w HG.out.2.2.2.2.2.2.1 HG.out.2.1 ?_; intro w6 HG6 hb6 hk6 hs6))
  simp only [Act.put, goInt, Array.set!_eq_setIfInBounds, List.setIfInBounds_toArray, List.set_cons_succ, List.set_cons_zero]
  have HB6 : Hid (Below lo w w6 ∧ w6.heap[g]? = some (.cells L.toArray 68 (0, 0))) := ⟨hb6, (hk6 g HG.out.2.2.2.2.2.2.2.2.1).trans HG.out.2.2.2.2.2.1⟩
  clear hb6 hk6 hs6
  refine wp_region_lastK w6.heap.size (by kernel_rfl) rfl rfl (by kernel_rfl) (lastC_of 4 (by kernel_rfl)) ?_
  intro hne
  dsimp only [List.dropLast]
  repeat (go_big_quiet_step (fail))
  refine wpQuiet_nil ?_
  rintro u ⟨xk, hxk⟩
  have hR1 := xk.h
  rw [← hxk] at hR1
  clear hxk xk hne
  simp only [List.getLast, List.getLast_cons_cons, List.getLast_singleton]
  have hgu : u.heap[g]? = some (.cells L.toArray 68 (0, 0)) := (hR1.block g (Array.getElem?_eq_some_iff.1 HB6.out.2).1).trans HB6.out.2
  have hqu : u.heap[q]? = some (.cells (splice RR (i * 5) (R.spl x)).toArray 68 (0, 0)) := (hR1.block q (Array.getElem?_eq_some_iff.1 HG6.out).1).trans HG6.out
  have hD : (L.drop (i * 5)).length = (cap - i) * 5 := by rw [List.length_drop, HG.out.2.2.2.2.2.2.2.2.2.2.1]; omega
  have hx5 : (R.spl x).length = 5 := rfl
  have hfit : (i + 1) * 5 + (L.drop (i * 5)).length ≤ (splice RR (i * 5) (R.spl x)).length := by
    rw [splice_len _ _ _ H6.out.2.2, hD, HG.out.2.2.1]
    omega
  refine wpList_copyV rfl (.tmp 50) (.tmp 53) 25 25 rfl 68 5 Try.underlying25 sz68 q ((i + 1) * 5) (cap + 1 - (i + 1)) (G - (i + 1)) ⟨g, i * 5, none⟩ (cap - i) (cap - i) (by simp [Act.eval]) (by simp [Act.eval]) (splice RR (i * 5) (R.spl x)) 68 hqu (L.drop (i * 5)) (by rw [hD]; simp only [Nat.min_def]; split <;> omega) (fun j v hj => cell_row hgu (by rw [List.getElem?_drop] at hj; exact hj)) hfit (fun v hv => flat_one (S := S) (n := cap) v (by rw [← HG.out.2.2.2.2.2.2.2.2.2.2.2]; exact List.mem_of_mem_drop hv)) lo w (HB6.out.1.trans (hR1.mono (Nat.le_of_lt (Nat.lt_of_le_of_lt HG.out.2.1 (Array.getElem?_eq_some_iff.1 HG6.out).1)))) HG.out.2.1 ?_
  intro w7 HG7 hb7 hk7 hs7
  have HE : Hid (lo ≤ q ∧ cap + 1 ≤ G ∧ G ≤ maxLen ∧ (∃ L' : List Value, w7.heap[q]? = some (.cells L'.toArray 68 (0, 0)) ∧ L'.length = G * 5 ∧ L'.take ((cap + 1) * 5) = flat (fun j => R.spl (ins S i x j)) (cap + 1)) ∧ Below lo w w7) := by
    refine ⟨HG.out.2.1, hGe, HG.out.2.2.2.2.2.2.2.1, ⟨_, HG7.out, by rw [splice_len _ _ _ hfit, splice_len _ _ _ H6.out.2.2, HG.out.2.2.1], ?_⟩, hb7⟩
    have h3 := HG.out.2.2.2.2.2.2.2.2.2.2.2
    have h4 := HG.out.2.2.2.2.2.2.2.2.2.2.1
    have h5 := HG.out.2.2.1
    have h6 := HG.out.2.2.2.1
    obtain ⟨k, rfl⟩ : ∃ k, cap = i + k := ⟨cap - i, by omega⟩
    rw [flat_ins, ← h3]
    exact grow_list h4 rfl (by omega) (by omega) h6
  clear hb7 hk7 hs7 hgu hqu hD hfit hR1
  go_wp2
  go_ret
  exact ⟨_, _, rfl, HE.out⟩
end Go.Proofs.Ytclnmikneomccaa
