/- ProgramMesh of the specification: contract; and what it wants: rows that are built one behind another, the first row with a pivot, a cell appended at a step of a region that draws its order. -/
import Derived.Test.YtboppklcmdfphaaPi
import Derived.Test.YtboppklcmdfphaaSf
import Derived.Deep.RegionLaw
namespace Go.Proofs.Ytboppklcmdfphaa
open Go.RowKit
set_option linter.unusedVariables false
set_option linter.unusedSimpArgs false
namespace Rm
theorem pv_neg (M : Mx) (c : Nat) : ∀ k, pv M c k < 0 → ∀ j, j < k → M (c + j) c = 0
  | 0, _, j, hj => absurd hj (Nat.not_lt_zero _)
  | k + 1, h, j, hj => by
    rw [pv] at h
    split at h
    · omega
    · rename_i h1
      split at h
      · rename_i h2
        by_cases e : j = k
        · subst e; exact h2
        · exact pv_neg M c k (by omega) j (by omega)
      · omega
theorem pv_first (M : Mx) (c : Nat) : ∀ k, 0 ≤ pv M c k → ∀ r, c ≤ r → (r : Int) < pv M c k → M r c = 0
  | 0, h, _, _, _ => by simp [pv] at h
  | k + 1, h, r, hr, hlt => by
    rw [pv] at hlt
    split at hlt
    · rename_i h1; exact pv_first M c k h1 r hr hlt
    · rename_i h1
      split at hlt
      · omega
      · have := pv_neg M c k (by omega) (r - c) (by omega)
        rwa [Nat.add_sub_cancel' hr] at this
theorem fac_nought {F : Mx} {n c k : Nat} (hr : Res n n F) (hc : c < n) (hk : k < n) (hp : F c c ≠ 0) : fac F c k = 0 ↔ F k c = 0 := by
  have h1 := hr c c hc hc
  have h2 := hr k c hk hc
  unfold fac
  rw [mulM_nought, md_id h2.1 h2.2]
  have h3 : md (invM (F c c)) ≠ 0 := invM_no (by rw [md_id h1.1 h1.2]; exact hp)
  exact ⟨fun h => h.resolve_right h3, Or.inl⟩
theorem clrP_skip {F : Mx} {c k : Nat} (h : k = c ∨ F k c = 0) (r t : Nat) : clrP F c k r t = clrP F c (k + 1) r t := by
  unfold clrP
  by_cases e : r < k ∧ r ≠ c ∧ F r c ≠ 0
  · rw [if_pos e, if_pos ⟨by omega, e.2⟩]
  · rw [if_neg e, if_neg (fun e' => e ⟨by
      by_cases q : r = k
      · subst q; rcases h with h | h
        · exact absurd h e'.2.1
        · exact absurd h e'.2.2
      · omega, e'.2⟩)]
theorem clrP_next {F : Mx} {c k : Nat} (h : ¬ (k = c ∨ F k c = 0)) (n : Nat) (r t : Nat) (ht : t < n) : (if r = k ∧ t < n then less1 F c k t else clrP F c k r t) = clrP F c (k + 1) r t := by
  unfold clrP
  by_cases q : r = k
  · subst q
    rw [if_pos ⟨rfl, ht⟩, if_pos ⟨by omega, fun e => h (Or.inl e), fun e => h (Or.inr e)⟩]
  · rw [if_neg (by omega)]
    by_cases e : r < k ∧ r ≠ c ∧ F r c ≠ 0
    · rw [if_pos e, if_pos ⟨by omega, e.2⟩]
    · rw [if_neg e, if_neg (fun e' => e ⟨by omega, e'.2⟩)]
end Rm
/-- Rows that are built one behind another. -/
structure Rc (lo : Nat) (W : World) (i n : Nat) (M : Rm.Mx) (v : Value) (bs cs : Nat → Nat) : Prop where
  own : W.ownsRow lo 32 1 v i ((List.range i).map fun r => .slice (some ⟨bs r, 0, none⟩) n (cs r))
  rows : ∀ r, r < i → lo ≤ bs r ∧ Seg W (bs r) 2 0 n (fun j => .int .i64 (M r j))
  apart : ∀ r s, r < i → s < i → bs r = bs s → r = s
theorem Rc.step {lo : Nat} {wo W w1 : World} {i n g cp : Nat} {M : Rm.Mx} {v v1 : Value} {bs cs : Nat → Nat} {o : Obj} (h : Rc lo wo i n M v bs cs) (hb : Below wo.heap.size wo W) (hl : lo ≤ wo.heap.size) (hg : wo.heap.size ≤ g) (ho : Seg W g 2 0 n (fun j => .int .i64 (M i j)))
    (hown : w1.ownsRow lo 32 1 v1 (i + 1) (((List.range i).map fun r => .slice (some ⟨bs r, 0, none⟩) n (cs r)) ++ [.slice (some ⟨g, 0, none⟩) n cp]))
    (hgr : (W.alloc o).grownBy w1 v.ownBlock) : Rc lo w1 (i + 1) n M v1 (fun r => if r = i then g else bs r) (fun r => if r = i then cp else cs r) := by
  have hO : W.ownsRow lo 32 1 v i ((List.range i).map fun r => .slice (some ⟨bs r, 0, none⟩) n (cs r)) := owns_later h.own hb
  have old : ∀ (b : Nat) (f : Nat → Value), Seg W b 2 0 n f → Seg w1 b 2 0 n f := fun b f hf => (hf.alloc _).grown hgr (owns_ne hO hf (by decide))
  refine ⟨?_, fun r hr => ?_, fun r s hr hs e => ?_⟩
  · have e : (List.range (i + 1)).map (fun r => Value.slice (some ⟨if r = i then g else bs r, 0, none⟩) n (if r = i then cp else cs r)) = ((List.range i).map fun r => Value.slice (some ⟨bs r, 0, none⟩) n (cs r)) ++ [Value.slice (some ⟨g, 0, none⟩) n cp] := by
      rw [List.range_succ, List.map_append]
      congr 1
      · exact List.map_congr_left fun r hr => by
          have := List.mem_range.1 hr
          rw [if_neg (by omega), if_neg (by omega)]
      · simp
    rw [e]
    exact hown
  · by_cases e : r = i
    · subst e
      simp only [if_true]
      exact ⟨by omega, old _ _ ho⟩
    · simp only [e, if_false]
      have := h.rows r (by omega)
      exact ⟨this.1, old _ _ (this.2.of_block (hb.block _ this.2.lt))⟩
  · by_cases e1 : r = i
    · by_cases e2 : s = i
      · omega
      · simp only [e1, e2, if_true, if_false] at e
        have := (h.rows s (by omega)).2.lt
        omega
    · by_cases e2 : s = i
      · simp only [e1, e2, if_true, if_false] at e
        have := (h.rows r (by omega)).2.lt
        omega
      · simp only [e1, e2, if_false] at e
        exact h.apart r s (by omega) (by omega) e
theorem Rc.mat {lo : Nat} {W : World} {n g cap : Nat} {M : Rm.Mx} {v : Value} {bs cs : Nat → Nat} (h : Rc lo W n n M v bs cs) (hs : Seg W g 32 0 n (fun r => .slice (some ⟨bs r, 0, none⟩) n (cs r))) (hg : lo ≤ g) :
    Mat lo W.heap.size W ⟨g, cap, bs, fun _ => 0, cs⟩ n (fun _ => n) M :=
  ⟨hs, fun r hr => (h.rows r hr).2, hg, hs.lt, fun r hr => (h.rows r hr).1, fun r hr => (h.rows r hr).2.lt, h.apart⟩
theorem ownsL_empty (w : World) : OwL w.heap.size (w.alloc (.cells #[] 77)) (.slice (some ⟨w.heap.size, 0, none⟩) 0 0) [] :=
  ⟨rfl, Or.inr ⟨w.heap.size, 0, #[], rfl, Nat.le_refl _, heap_alloc_new _ _, Nat.le_refl _, Nat.zero_le _, rfl, rfl⟩⟩
theorem OwL.keeps {base : Nat} {W W' : World} {v : Value} {N : List Ce} (h : OwL base W v N) (hk : ∀ q, base ≤ q → q < W.heap.size → W'.heap[q]? = W.heap[q]?) : OwL base W' v N := by
  refine ⟨h.1, ?_⟩
  rcases h.2 with h | ⟨g, cp, cur, hv, hg, hb, rest⟩
  · exact Or.inl h
  · exact Or.inr ⟨g, cp, cur, hv, hg, (hk g hg (Array.getElem?_eq_some_iff.1 hb).1).trans hb, rest⟩
theorem pcd_none {n : Nat} {L : Nat → Nat} {A : Rm.Mx} (h : pcd n L A ≠ 0) : pgo n L A = none := by
  unfold pcd at h
  by_cases hf : faultOf n L = 0
  · rw [if_neg (by simp [hf])] at h
    cases e : pgo n L A with
    | none => rfl
    | some s => rw [e] at h; simp at h
  · unfold pgo; rw [if_neg hf]
theorem pcd_zero {n : Nat} {L : Nat → Nat} {A : Rm.Mx} (h : pcd n L A = 0) : faultOf n L = 0 ∧ Rm.pg n (rsm A) n ≠ none := by
  unfold pcd at h
  by_cases hf : faultOf n L = 0
  · refine ⟨hf, fun e => ?_⟩
    have : pgo n L A = none := by unfold pgo; rw [if_pos hf, e]
    rw [if_neg (by simp [hf]), this] at h
    simp at h
  · rw [if_pos hf] at h; exact absurd h hf
theorem sMulB_any (a b : Int) (w : World) : Calls Try.prog 79 #[.int .i64 a, .int .i64 b] w fun e w' => e = .returned (.int .i64 (Rm.mulM a b)) ∧ Below w.heap.size w w' := (sMul_any a b w).mono fun e w' ⟨h, k⟩ => ⟨h, k ▸ Below.refl _ _⟩
theorem sAddB_any (a b : Int) (w : World) : Calls Try.prog 80 #[.int .i64 a, .int .i64 b] w fun e w' => e = .returned (.int .i64 (Rm.addM a b)) ∧ Below w.heap.size w w' := (sAdd_any a b w).mono fun e w' ⟨h, k⟩ => ⟨h, k ▸ Below.refl _ _⟩
theorem OutR.form {w : World} {c : Int} {v : Value} {n : Nat} {F : Rm.Mx} (h : OutR w c v n F) : ∃ ao k cap, v = .slice ao k cap := by
  rcases h with ⟨_, h⟩ | ⟨_, h⟩
  · exact ⟨none, 0, 0, h⟩
  · obtain ⟨ao, cap, e⟩ := h.shape
    exact ⟨ao, n, cap, e⟩
theorem step_pushV {ops : Array Oper} {o : Oper} {a : Act} {K : Act → World → Prop} {Q : Exit → Act → World → Prop} {E : Prop} (hgd : o.guard = none) (s x : Operand) (t : TypeId)
    (ho : o.op = .call { callee := .builtin .append, args := #[s, x], argTypes := #[t, t] }) (e : TypeId) (z : Value) (m bytes : Nat) (ht : Try.prog.underlying t = some (.slice e))
    (hinfo : (Try.prog.info? e).map (fun i => (i.zero, i.size, i.bytes)) = some (some z, m, bytes)) (hz1 : z.cells.size = m) (hm : 0 < m) (hby : bytes ≤ 100) (w : World) (us : List Value) (hul : us.length = m) (hu : ∀ u ∈ us, u.oneCell' = true)
    (base : Nat) (v : Value) (n : Nat) (xs : List Value) (hs : a.eval s = v) (hown : w.ownsRow base e m v n xs) (c : Nat) (hx : a.eval x = .slice (some ⟨w.heap.size, 0, none⟩) 1 c) (hn : n ≤ 1000000000) (hbase : base ≤ w.heap.size)
    (h : ∀ v' w', w'.ownsRow base e m v' (n + 1) (xs ++ us) → (w.alloc (.cells us.toArray e)).grownBy w' v.ownBlock → K (a.put o.dst v') w') :
    if Region.wanted o (yielded ops a.tmps) = true then Oper.wp Try.prog o a (w.alloc (.cells us.toArray e)) K Q else E := by
  obtain ⟨i, h1, h2, h3, h4⟩ := infoV_parts hinfo
  refine step_append_lies _ hgd s x t ho base e i z m bytes ht h1 h2 h3 h4 hz1 hm v n xs hs (hown.alloc _) ⟨w.heap.size, 0, none⟩ 1 c us hx (by omega) ?_ hu (by decide) ?_ ?_ ?_ _ rfl fun g cap w' a1 a2 _ _ => h _ w' a1 a2
  · intro j y hj
    have : (w.alloc (.cells us.toArray e)).heap[w.heap.size]? = some (.cells us.toArray e) := heap_alloc_new _ _
    have e0 : (⟨w.heap.size, 0, none⟩ : Addr).add j = ⟨w.heap.size, j, none⟩ := by
      unfold Addr.add
      split
      · rename_i h; subst h; rfl
      · simp
    rw [e0]
    unfold World.cell?
    rw [this]
    simpa using hj
  · unfold maxLen; omega
  · have : (n + 1) * bytes ≤ (n + 1) * 100 := Nat.mul_le_mul_left _ hby
    omega
  · simp; omega
theorem step_pushC {ops : Array Oper} {o : Oper} {a : Act} {K : Act → World → Prop} {Q : Exit → Act → World → Prop} {E : Prop} (hgd : o.guard = none) (s x : Operand)
    (ho : o.op = .call { callee := .builtin .append, args := #[s, x], argTypes := #[47, 47] }) (w : World) (g : Ce) (base : Nat) (v : Value) (N : List Ce) (hs : a.eval s = v) (hown : OwL base w v N) (hx : a.eval x = .slice (some ⟨w.heap.size, 0, none⟩) 1 1) (hn : N.length ≤ 1000000) (hbase : base ≤ w.heap.size)
    (h : ∀ v' w', OwL base w' v' (N ++ [g]) → (w.alloc (.cells #[Value.int .i64 g.i, Value.int .i64 g.j, Value.int .i64 g.a, Value.int .i64 g.b, Value.int .i64 g.c, Value.int .i64 g.d] 77)).grownBy w' v.ownBlock → K (a.put o.dst v') w') :
    if Region.wanted o (yielded ops a.tmps) = true then Oper.wp Try.prog o a (w.alloc (.cells #[Value.int .i64 g.i, Value.int .i64 g.j, Value.int .i64 g.a, Value.int .i64 g.b, Value.int .i64 g.c, Value.int .i64 g.d] 77)) K Q else E :=
  step_pushV hgd s x 47 ho 77 _ 6 48 Try.underlying47 infoCell rfl (by decide) (by decide) w [Value.int .i64 g.i, Value.int .i64 g.j, Value.int .i64 g.a, Value.int .i64 g.b, Value.int .i64 g.c, Value.int .i64 g.d] rfl (fun u hu => cellsL_cell [g] u (by rw [cellsL_one]; exact hu)) base v N.length (cellsL N) hs hown 1 hx (by omega) hbase fun v' w' h1 h2 => h v' w' (by
    unfold OwL
    rw [List.length_append, cellsL_app, cellsL_one]
    exact h1) h2
theorem OwL.rdC {base : Nat} {W : World} {v : Value} {N : List Ce} (h : OwL base W v N) : RdC W v N.length (fun i => N.getD i Rm.nilC) := by
  rcases h.seg with ⟨rfl, rfl⟩ | ⟨g, cap, rfl, _, hs⟩
  · exact Or.inl ⟨_, _, rfl, rfl⟩
  · exact Or.inr ⟨g, cap, rfl, hs⟩
theorem rev_take {N : List Ce} {j m : Nat} (hj : j < N.length) (hm : m = N.length - 1 - j) : N.reverse.take j ++ [N.getD m Rm.nilC] = N.reverse.take (j + 1) := by
  subst hm
  rw [rev_get N hj, List.take_add_one, List.getD_eq_getElem?_getD]
  have : j < N.reverse.length := by simpa using hj
  rw [List.getElem?_eq_getElem this]
  simp
theorem OwL.ownC {base : Nat} {W : World} {v : Value} {N : List Ce} (h : OwL base W v N) : OwC base W.heap.size W v N.length (fun i => N.getD i Rm.nilC) := by
  rcases h.seg with ⟨rfl, rfl⟩ | ⟨g, cap, rfl, hg, hs⟩
  · exact Or.inl ⟨_, _, rfl, rfl⟩
  · exact Or.inr ⟨g, cap, rfl, hg, hs.lt, hs⟩
theorem RdC.later' {w w' : World} {v : Value} {n : Nat} {C : Nat → Ce} (h : RdC w v n C) (hb : Below w.heap.size w w') : RdC w' v n C := by
  rcases h with h | ⟨g, cap, rfl, hs⟩
  · exact Or.inl h
  · exact Or.inr ⟨g, cap, rfl, hs.of_block (hb.block g hs.lt)⟩
set_option maxRecDepth 20000 in
set_option maxHeartbeats 6400000 in
theorem sProg_any {w : World} (b off cap : Nat) {n : Nat} {L : Nat → Nat} {A : Rm.Mx} (hA : RdMat w (.slice (some ⟨b, off, none⟩) n cap) n L A) (hn : n ≤ 1000000000000) (hL : ∀ k, k < n → L k ≤ 1000000000000) :
    Calls Try.prog 43 #[.slice (some ⟨b, off, none⟩) n cap] w fun e w' => ∃ v0 v1, e = .returned (.agg #[.int .i64 (pcd n L A), .int .i64 (psd n L A), v0, v1]) ∧ MeO w.heap.size w'.heap.size w' v0 v1 (pnp n L A) (pph n L A) (pnc n L A) (pC n L A) ∧ Below w.heap.size w w' := by
  obtain ⟨X0, hX0⟩ : ∃ X, X = w.alloc (.cells #[.int .i64 0, .int .i64 0, .slice none 0 0, .slice none 0 0] 61) := ⟨_, rfl⟩
  have HX0 : Hid (Blk X0 w.heap.size #[.int .i64 0, .int .i64 0, .slice none 0 0, .slice none 0 0] 61 ∧ Below w.heap.size w X0 ∧ X0.heap.size = w.heap.size + 1) := by rw [hX0]; exact ⟨Blk.new rfl, (Below.refl _ _).alloc (Nat.le_refl _) _, by simp⟩
  have HA : Hid (RdMat X0 (.slice (some ⟨b, off, none⟩) n cap) n L A) := hA.later HX0.out.2.1
  have HL : Hid (∀ k, k < n → L k ≤ 1000000000000) := hL
  clear hA hL
  go_enter Try.func43, Try.ntmps43
  go_wp2_with fail
  rw [← hX0]
  clear hX0
  have HC := sInvR_any HA.out hn HL.out
  rw [inv_pcd] at HC
  refine HC.mono ?_
  clear HC
  rintro e w1 ⟨v, rfl, hv, hb1⟩
  obtain ⟨iao, ik, icp, rfl⟩ := hv.form
  have z1 := hb1.size
  have hw0 : w.heap.size < w1.heap.size := by have := HX0.out.2.2; omega
  obtain ⟨X, hX⟩ : ∃ X, X = w1.alloc (.cells #[.int .i64 (pcd n L A), .slice iao ik icp] 25) := ⟨_, rfl⟩
  have HX : Hid (Blk X w.heap.size #[.int .i64 0, .int .i64 0, .slice none 0 0, .slice none 0 0] 61 ∧ Blk X w1.heap.size #[.int .i64 (pcd n L A), .slice iao ik icp] 25 ∧ Below w.heap.size w X ∧ RdMat X (.slice (some ⟨b, off, none⟩) n cap) n L A ∧ X.heap.size = w1.heap.size + 1) := by
    have h1 : Below X0.heap.size X0 X := by rw [hX]; exact hb1.alloc z1 _
    exact ⟨HX0.out.1.old h1, by rw [hX]; exact Blk.new rfl, HX0.out.2.1.trans (h1.mono (by have := HX0.out.2.2; omega)), HA.out.later h1, by rw [hX]; simp⟩
  have zX : X.heap.size = w1.heap.size + 1 := HX.out.2.2.2.2
  have HW1 : Hid (Blk w1 w.heap.size #[.int .i64 0, .int .i64 0, .slice none 0 0, .slice none 0 0] 61 ∧ Below w.heap.size w w1) := ⟨HX0.out.1.old hb1, HX0.out.2.1.trans (hb1.mono (by have := HX0.out.2.2; omega))⟩
  clear hv hb1 HA HX0
  by_cases hc : pcd n L A = 0
  · have hc1 : (pcd n L A != 0) = false := by simp [hc]
    obtain ⟨hf, hpg⟩ := pcd_zero hc
    obtain ⟨h0, h24, hLn⟩ := fault_right hf
    obtain ⟨q, hq⟩ := rd_choose h0 hLn HX.out.2.2.2.1
    have HQ : Hid (∀ i, i < n → X.cell? ⟨b, off + i, none⟩ = some (.slice (some ⟨(q i).1, (q i).2.1, none⟩) n (q i).2.2) ∧ ∀ k, k < n → X.cell? ⟨(q i).1, (q i).2.1 + k, none⟩ = some (.int .i64 (A i k))) := hq
    have HPN : Hid (Rm.pg n (rsm A) n ≠ none ∧ faultOf n L = 0 ∧ pcd n L A = 0) := ⟨hpg, hf, hc⟩
    clear hq hpg hf hLn HL hc
    go_wp2_with fail
    rw [← hX]
    clear hX
    go_loopw [6, 5] (fun s v wr => ∃ (i : Nat) (bs cs : Nat → Nat), i ≤ n ∧ s = .int .i64 i ∧ Hid (Rc X.heap.size wr i n (rsm A) v bs cs ∧ Below X.heap.size X wr)) (fun s _ _ => n - (intOf s).toNat)
    case atStart => exact ⟨0, fun _ => 0, fun _ => 0, Nat.zero_le _, rfl, ⟨by rw [← zX]; exact owns_empty X 32, fun r hr => absurd hr (Nat.not_lt_zero _), fun r s hr => absurd hr (Nat.not_lt_zero _)⟩, (Below.refl _ _).alloc (Nat.le_refl _) _⟩
    case round =>
      obtain ⟨i, bs, cs, hi, rfl, HB⟩ := hrel
      obtain ⟨wo, hwo⟩ : ∃ wo, wo = wr := ⟨_, rfl⟩
      subst hwo
      have hz0 : X.heap.size ≤ wo.heap.size := HB.out.2.size
      by_cases hin : i < n
      · have GA0 : Hid (wo.cell? ⟨b, off + i, none⟩ = some (.slice (some ⟨(q i).1, (q i).2.1, none⟩) n (q i).2.2)) := (HB.out.2.cell (World.block_lt_of_cell? _ _ (HQ.out i hin).1)).trans (HQ.out i hin).1
        have GA : Hid (∀ k, k < n → wo.cell? ⟨(q i).1, (q i).2.1 + k, none⟩ = some (.int .i64 (A i k))) := fun k hk => (HB.out.2.cell (World.block_lt_of_cell? _ _ ((HQ.out i hin).2 k hk))).trans ((HQ.out i hin).2 k hk)
        go_wp2_with fail
        go_loopw [8, 7] (fun s v wx => ∃ j : Nat, j ≤ n ∧ s = .int .i64 j ∧ Hid (wx.ownsRow wo.heap.size 2 1 v j (il (rsm A i) j) ∧ Below wo.heap.size wo wx)) (fun s _ _ => n - (intOf s).toNat)
        case atStart => exact ⟨0, Nat.zero_le _, rfl, owns_empty wo 2, (Below.refl _ _).alloc (Nat.le_refl _) _⟩
        case round =>
          obtain ⟨j, hj, rfl, HR⟩ := hrel
          have hws := HR.out.2.size
          by_cases hjn : j < n
          · have g0 : wr.cell? ⟨b, off + i, none⟩ = some (.slice (some ⟨(q i).1, (q i).2.1, none⟩) n (q i).2.2) := (HR.out.2.cell (World.block_lt_of_cell? _ _ GA0.out)).trans GA0.out
            have g1 : wr.cell? ⟨(q i).1, (q i).2.1 + j, none⟩ = some (.int .i64 (A i j)) := (HR.out.2.cell (World.block_lt_of_cell? _ _ (GA.out j hjn))).trans (GA.out j hjn)
            go_wp2_with fail
            refine (l2Mod_any _ _).mono ?_
            rintro e w5 ⟨rfl, rfl⟩
            go_wp2_with (first | (at_builtin; refine push_law rfl (.tmp 42) (.tmp 51) 32 rfl 2 (.int .i64 0) 8 Try.underlying32 info2 rfl (by decide) wr _ rfl wo.heap.size u7 j _ rfl HR.out.1 1 rfl (by omega) hws ?_; intro v1 w2 hown1 hgrow1))
            have HN : Hid (w2.ownsRow wo.heap.size 2 1 v1 (j + 1) (il (rsm A i) (j + 1)) ∧ Below wo.heap.size wo w2) := ⟨by rw [← il_push]; exact hown1, push_below HR.out.1 hgrow1 HR.out.2 hws⟩
            clear hown1 hgrow1
            go_wp2
            exact ⟨⟨j + 1, by omega, by simp, HN⟩, by simp [intOf]; omega⟩
          · obtain rfl : n = j := by omega
            have hO : Hid (wr.ownsRow X.heap.size 32 1 u5 i ((List.range i).map fun r => .slice (some ⟨bs r, 0, none⟩) n (cs r))) := owns_later HB.out.1.own HR.out.2
            obtain ⟨g, cp, hv, hgb, hseg⟩ := owned_seg HR.out.1 h0
            subst hv
            have HG : Hid (wo.heap.size ≤ g ∧ Seg wr g 2 0 n (fun j => .int .i64 (rsm A i j))) := ⟨hgb, hseg⟩
            clear hgb hseg
            go_wp2_with (first | (at_builtin; refine push_law rfl (.tmp 53) (.tmp 55) 22 rfl 32 (.slice none 0 0) 24 Try.underlying22 info38 rfl (by decide) wr _ rfl X.heap.size u5 i _ rfl hO.out 1 rfl (by omega) (by omega) ?_; intro v1 w2 hown1 hgrow1))
            have HN : Hid (Rc X.heap.size w2 (i + 1) n (rsm A) v1 (fun r => if r = i then g else bs r) (fun r => if r = i then cp else cs r) ∧ Below X.heap.size X w2) := ⟨HB.out.1.step HR.out.2 hz0 HG.out.1 HG.out.2 hown1 hgrow1, push_below hO.out hgrow1 (HB.out.2.trans (HR.out.2.mono hz0)) (by omega)⟩
            clear hown1 hgrow1
            go_wp2
            exact ⟨⟨i + 1, _, _, by omega, by simp, HN⟩, by simp [intOf]; omega⟩
      · obtain rfl : n = i := by omega
        obtain ⟨g, cp, hv, hgl, hseg⟩ := owned_seg HB.out.1.own h0
        subst hv
        obtain ⟨Y, hY⟩ : ∃ Y, Y = wo := ⟨_, rfl⟩
        subst hY
        have H3 : Hid (Mat X.heap.size Y.heap.size Y ⟨g, cp, bs, fun _ => 0, cs⟩ n (fun _ => n) (rsm A) ∧ Below X.heap.size X Y) := ⟨HB.out.1.mat hseg hgl, HB.out.2⟩
        clear HB hseg hgl HQ
        go_wp2_with fail
        go_loopw [10, 9] (fun s v wr => ∃ (c : Nat) (W : Rm.Mx) (N : List Ce) (m : Lie), c ≤ n ∧ s = .int .i64 c ∧ Hid (m.b = g) ∧ Hid (Rm.pg n (rsm A) c = some (W, N) ∧ Mat X.heap.size Y.heap.size wr m n (fun _ => n) W ∧ OwL Y.heap.size wr v N ∧ Below X.heap.size X wr ∧ Y.heap.size ≤ wr.heap.size)) (fun s _ _ => n - (intOf s).toNat)
        case atStart => exact ⟨0, rsm A, [], ⟨g, cp, bs, fun _ => 0, cs⟩, Nat.zero_le _, rfl, rfl, rfl, H3.out.1.alloc _ (Nat.le_refl _), ownsL_empty Y, H3.out.2.alloc hz0 _, by simp⟩
        case round =>
          obtain ⟨c, W, N, m, hc, rfl, HMB, HS⟩ := hrel
          have hlen : N.length ≤ 576 := by
            have h1 := Rm.pg_len c hc W N HS.out.1
            have h3 : c * n ≤ 24 * 24 := Nat.mul_le_mul (by omega) h24
            omega
          have HRes : Hid (Rm.Res n n W) := Rm.res_pg (rsm_res A n n) c hc W N HS.out.1
          have HPG : Hid (Rm.pg n (rsm A) c = some (W, N)) := HS.out.1
          clear H3
          by_cases hcn : c < n
          · have hpv : 0 ≤ Rm.pv W c (n - c) := by
              by_cases e : 0 ≤ Rm.pv W c (n - c)
              · exact e
              · exact absurd (Rm.pg_none' (Rm.pg_no HS.out.1 (by omega)) (by omega)) HPN.out.1
            obtain ⟨p, hp⟩ : ∃ p : Nat, (p : Int) = Rm.pv W c (n - c) := ⟨(Rm.pv W c (n - c)).toNat, by omega⟩
            have hpn : p < n := by have := Rm.pv_hi W c (n - c); omega
            have hcp : c ≤ p := by have := Rm.pv_ge W c (n - c) hpv; omega
            have HPP : Hid ((Rm.pv W c (n - c)).toNat = p ∧ 0 ≤ Rm.pv W c (n - c) ∧ W p c ≠ 0 ∧ ∀ r, c ≤ r → r < p → W r c = 0) := by
              have e1 : (Rm.pv W c (n - c)).toNat = p := by omega
              refine ⟨e1, hpv, ?_, fun r h1 h2 => Rm.pv_first W c (n - c) hpv r h1 (by omega)⟩
              have := Rm.pv_ne W c (n - c) hpv
              rw [e1] at this
              exact this
            clear hp hpv
            obtain ⟨Z, hZ⟩ : ∃ Z, Z = wr := ⟨_, rfl⟩
            subst hZ
            go_wp2_with fail
            go_loopw [11] (fun s wr => wr = Z ∧ ∃ k : Nat, c ≤ k ∧ k ≤ p ∧ s = .int .i64 k) (fun s _ => p - (intOf s).toNat)
            case atStart => exact ⟨rfl, c, Nat.le_refl _, hcp, rfl⟩
            case round =>
              obtain ⟨rfl, k, hck, hkp, rfl⟩ := hrel
              have hkn : k < n := by omega
              have g1 : wr.cell? ⟨g, k, none⟩ = some (.slice (some ⟨m.bs k, m.os k, none⟩) n (m.cs k)) := by have := HS.out.2.1.cellRow hkn; rw [HMB.out] at this; exact this
              have g2 : wr.cell? ⟨m.bs k, m.os k + c, none⟩ = some (.int .i64 (W k c)) := HS.out.2.1.cellAt hkn hcn
              by_cases hkp' : k < p
              · have hz : (W k c == 0) = true := by simp [HPP.out.2.2.2 k hck hkp']
                go_wp2
                exact ⟨⟨by trivial, k + 1, by omega, by omega, by simp⟩, by simp [intOf]; omega⟩
              · obtain rfl : p = k := by omega
                have hz : (W p c == 0) = false := by simpa using HPP.out.2.2.1
                go_upto_if 76 with fail
                clear g1 g2 hz
                go_cut [9] from 76 to 97 (fun v wx => ∃ (v9 : Value) (m' : Lie), v9 = v ∧ Hid (m'.b = g) ∧ Hid (Mat X.heap.size Y.heap.size wx m' n (fun _ => n) (Rm.swp W c p) ∧ OwL Y.heap.size wx v9 (N ++ Rm.lift1 c p) ∧ Below X.heap.size X wx ∧ Y.heap.size ≤ wx.heap.size))
                case first =>
                  have g1 : wr.cell? ⟨g, p, none⟩ = some (.slice (some ⟨m.bs p, m.os p, none⟩) n (m.cs p)) := by have := HS.out.2.1.cellRow hpn; rw [HMB.out] at this; exact this
                  have g2 : wr.cell? ⟨g, c, none⟩ = some (.slice (some ⟨m.bs c, m.os c, none⟩) n (m.cs c)) := by have := HS.out.2.1.cellRow hcn; rw [HMB.out] at this; exact this
                  have g3 : wr.frozen? ⟨g, p, none⟩ = false := by rw [← HMB.out]; exact HS.out.2.1.top.frozen _
                  have g4 : wr.frozen? ⟨g, c, none⟩ = false := by rw [← HMB.out]; exact HS.out.2.1.top.frozen _
                  by_cases hpc : p = c
                  · have h1 : (((p : Nat) : Int) != ((c : Nat) : Int)) = false := by rw [hpc]; simp
                    have HN : Hid (Mat X.heap.size Y.heap.size wr m n (fun _ => n) (Rm.swp W c p) ∧ OwL Y.heap.size wr u9 (N ++ Rm.lift1 c p) ∧ Below X.heap.size X wr ∧ Y.heap.size ≤ wr.heap.size) := by
                      refine ⟨HS.out.2.1.congr (fun r t _ _ => ?_), ?_, HS.out.2.2.2⟩
                      · unfold Rm.swp
                        rw [hpc]
                        by_cases e : r = c
                        · rw [if_pos e, e]
                        · rw [if_neg e, if_neg e]
                      · rw [show Rm.lift1 c p = [] by simp [Rm.lift1, hpc], List.append_nil]; exact HS.out.2.2.1
                    clear hpc HS
                    go_wp2_with fail
                    go_meet
                    case rel => exact ⟨_, m, rfl, HMB, HN⟩
                  · have h1 : (((p : Nat) : Int) != ((c : Nat) : Int)) = true := by rw [bne_iff_ne]; omega
                    have HPC : Hid (p ≠ c) := hpc
                    have hcp' : c < p := by omega
                    clear hpc
                    go_upto_region 26 with fail
                    obtain ⟨V, hV⟩ : ∃ V, V = (wr.setCell ⟨g, p, none⟩ (.slice (some ⟨m.bs c, m.os c, none⟩) n (m.cs c))).setCell ⟨g, c, none⟩ (.slice (some ⟨m.bs p, m.os p, none⟩) n (m.cs p)) := ⟨_, rfl⟩
                    have HV : Hid (Mat X.heap.size Y.heap.size V (m.swap c p) n (fun _ => n) (Rm.swp W c p) ∧ OwL Y.heap.size V u9 N ∧ Below X.heap.size X V ∧ Y.heap.size ≤ V.heap.size) := by
                      have hgY : g < Y.heap.size := by rw [← HMB.out]; exact HS.out.2.1.bhi
                      have hgX : X.heap.size ≤ g := by rw [← HMB.out]; exact HS.out.2.1.blo
                      have s1 := HS.out.2.1.top.set p hpn (m.row (fun _ => n) c)
                      have s2 := s1.set c hcn (m.row (fun _ => n) p)
                      simp only [Nat.zero_add] at s2
                      rw [hV]
                      refine ⟨HS.out.2.1.swap hcn hpn ?_ (fun k hk => by rw [HMB.out] at hk; rw [Below.heap_setCell _ _ _ _ hk, Below.heap_setCell _ _ _ _ hk]), HS.out.2.2.1.keeps (fun q h1 _ => by rw [Below.heap_setCell _ _ _ _ (by show q ≠ g; omega), Below.heap_setCell _ _ _ _ (by show q ≠ g; omega)]), (HS.out.2.2.2.1.setCell hgX _).setCell hgX _, by simp; exact HS.out.2.2.2.2⟩
                      rw [HMB.out] at s2 ⊢
                      exact s2
                    rw [← hV]
                    clear hV g1 g2 g3 g4 HS
                    have hzV : Y.heap.size ≤ V.heap.size := HV.out.2.2.2
                    go_wp2_with (first | (at_builtin; refine pushC rfl (.tmp 92) (.tmp 96) rfl V (Rm.swapC c p) Y.heap.size u9 N rfl HV.out.2.1 rfl (by omega) hzV ?_; intro v1 w6 hown6 hgr6 hnn6))
                    have HN : Hid (Mat X.heap.size Y.heap.size w6 (m.swap c p) n (fun _ => n) (Rm.swp W c p) ∧ OwL Y.heap.size w6 v1 (N ++ Rm.lift1 c p) ∧ Below X.heap.size X w6 ∧ Y.heap.size ≤ w6.heap.size) := by
                      obtain ⟨s1, s2, s3, s4⟩ := HV.out
                      have hB : Below Y.heap.size V w6 := ((Below.refl Y.heap.size V).alloc s4 _).grown hgr6 (by simp; omega) fun q hq => (World.ownsRow.lt s2 q hq).1
                      refine ⟨s1.keep (fun q _ h2 => hB.block q h2), ?_, s3.trans (hB.mono hz0), Nat.le_trans s4 hB.size⟩
                      rw [show Rm.lift1 c p = [Rm.swapC c p] by simp [Rm.lift1, HPC.out]]
                      exact hown6
                    clear hown6 hgr6 HV
                    go_wp2_with fail
                    go_meet
                    case rel => exact ⟨_, m.swap c p, rfl, HMB, HN⟩
                case rest =>
                  obtain ⟨v9, m', rfl, HMB', HC⟩ := hcut
                  clear HS HMB
                  have HRF : Hid (Rm.Res n n (Rm.swp W c p) ∧ Rm.swp W c p c c ≠ 0) := ⟨Rm.res_swp HRes.out hcn hpn, by unfold Rm.swp; simpa using HPP.out.2.2.1⟩
                  obtain ⟨F, hF⟩ : ∃ F, F = Rm.swp W c p := ⟨_, rfl⟩
                  have HF : Hid (F = Rm.swp W c p) := hF
                  rw [← hF] at HRF HC
                  clear hF
                  obtain ⟨N1, hN1⟩ : ∃ N1, N1 = N ++ Rm.lift1 c p := ⟨_, rfl⟩
                  have HN1 : Hid (N1 = N ++ Rm.lift1 c p) := hN1
                  have hlen1 : N1.length ≤ 577 := by rw [hN1, List.length_append]; have : (Rm.lift1 c p).length ≤ 1 := (by unfold Rm.lift1; split <;> simp); omega
                  rw [← hN1] at HC
                  clear hN1
                  have g1 : wc.cell? ⟨g, c, none⟩ = some (.slice (some ⟨m'.bs c, m'.os c, none⟩) n (m'.cs c)) := by have := HC.out.1.cellRow hcn; rw [HMB'.out] at this; exact this
                  have g2 : wc.cell? ⟨m'.bs c, m'.os c + c, none⟩ = some (.int .i64 (F c c)) := HC.out.1.cellAt hcn hcn
                  go_wp2_with fail
                  refine (sInv_any _ _).mono ?_
                  rintro e w1 ⟨rfl, rfl⟩
                  obtain ⟨u, hu⟩ : ∃ u, u = Rm.invM (F c c) := ⟨_, rfl⟩
                  have HU : Hid (u = Rm.invM (F c c)) := hu
                  rw [← hu]
                  clear hu g1 g2
                  go_wp2_with fail
                  go_loopw [14, 9] (fun s v wr => ∃ k : Nat, k ≤ n ∧ s = .int .i64 k ∧ Hid (Mat X.heap.size Y.heap.size wr m' n (fun _ => n) (Rm.clrP F c k) ∧ OwL Y.heap.size wr v (N1 ++ Rm.nk F c k) ∧ Below X.heap.size X wr ∧ Y.heap.size ≤ wr.heap.size)) (fun s _ _ => n - (intOf s).toNat)
                  case atStart => exact ⟨0, Nat.zero_le _, rfl, HC.out.1.congr (fun r t _ _ => by simp [Rm.clrP]), by rw [Rm.nk, List.append_nil]; exact HC.out.2.1, HC.out.2.2⟩
                  case round =>
                    obtain ⟨k, hk, rfl, HK⟩ := hrel
                    clear HC
                    by_cases hkn : k < n
                    · have hlen2 := Rm.nk_len F c k
                      have hlk : (Rm.nk F c k).length ≤ 24 := by split at hlen2 <;> omega
                      clear hlen2
                      have g1 : wr.cell? ⟨g, k, none⟩ = some (.slice (some ⟨m'.bs k, m'.os k, none⟩) n (m'.cs k)) := by have := HK.out.1.cellRow hkn; rw [HMB'.out] at this; exact this
                      have g2 : wr.cell? ⟨m'.bs k, m'.os k + c, none⟩ = some (.int .i64 (F k c)) := by have := HK.out.1.cellAt hkn hcn; simpa [Rm.clrP] using this
                      obtain ⟨f, hf⟩ : ∃ f, f = Rm.mulM (F k c) u := ⟨_, rfl⟩
                      have HFF : Hid (f = Rm.fac F c k ∧ (f = 0 ↔ F k c = 0)) := by
                        have e : f = Rm.fac F c k := by rw [hf, HU.out]; rfl
                        exact ⟨e, by rw [e]; exact Rm.fac_nought HRF.out.1 hcn hkn HRF.out.2⟩
                      go_wp2_with fail
                      refine (sMul_any _ _ _).mono ?_
                      rintro e w1 ⟨rfl, rfl⟩
                      rw [← hf]
                      clear hf g1 g2
                      by_cases hsk : k = c ∨ F k c = 0
                      · have HN : Hid (Mat X.heap.size Y.heap.size wr m' n (fun _ => n) (Rm.clrP F c (k + 1)) ∧ OwL Y.heap.size wr u9 (N1 ++ Rm.nk F c (k + 1)) ∧ Below X.heap.size X wr ∧ Y.heap.size ≤ wr.heap.size) :=
                          ⟨HK.out.1.congr (fun r t _ _ => Rm.clrP_skip hsk r t), by rw [Rm.nk, if_pos hsk]; exact HK.out.2.1, HK.out.2.2⟩
                        by_cases hkc : k = c
                        · have h1 : (((k : Nat) : Int) == ((c : Nat) : Int)) = true := by rw [hkc]; simp
                          clear hkc hsk HK
                          go_wp2
                          exact ⟨⟨k + 1, by omega, by simp, HN⟩, by simp [intOf]; omega⟩
                        · have h1 : (((k : Nat) : Int) == ((c : Nat) : Int)) = false := by rw [beq_eq_false_iff_ne]; omega
                          have h2 : (f == 0) = true := by rw [beq_iff_eq]; exact HFF.out.2.2 (hsk.resolve_left hkc)
                          clear hkc hsk HK
                          go_wp2
                          exact ⟨⟨k + 1, by omega, by simp, HN⟩, by simp [intOf]; omega⟩
                      · have HSK : Hid (¬ (k = c ∨ F k c = 0)) := hsk
                        have hkc : k ≠ c := fun e => hsk (Or.inl e)
                        have h1 : (((k : Nat) : Int) == ((c : Nat) : Int)) = false := by rw [beq_eq_false_iff_ne]; omega
                        have h2 : (f == 0) = false := by rw [beq_eq_false_iff_ne]; exact fun e => hsk (Or.inr (HFF.out.2.1 e))
                        clear hsk
                        go_wp2_with fail
                        clear h1 h2
                        go_loopw [16] (fun s wx => ∃ j : Nat, j ≤ n ∧ s = .int .i64 j ∧ Hid (Mat X.heap.size Y.heap.size wx m' n (fun _ => n) (fun r t => if r = k ∧ t < j then Rm.less1 F c k t else Rm.clrP F c k r t) ∧ OwL Y.heap.size wx u9 (N1 ++ Rm.nk F c k) ∧ Below X.heap.size X wx ∧ Y.heap.size ≤ wx.heap.size)) (fun s _ => n - (intOf s).toNat)
                        case atStart => exact ⟨0, Nat.zero_le _, rfl, HK.out.1.congr (fun r t _ _ => by simp), HK.out.2⟩
                        case round =>
                          obtain ⟨j, hj, rfl, HJ⟩ := hrel
                          clear HK
                          by_cases hjn : j < n
                          · have k1 : ∀ x : Kept wr.heap.size wr, x.w.cell? ⟨g, k, none⟩ = some (.slice (some ⟨m'.bs k, m'.os k, none⟩) n (m'.cs k)) := fun x => by
                              have := HJ.out.1.cellRow hkn; rw [HMB'.out] at this
                              exact x.cell (World.block_lt_of_cell? _ _ this) this
                            have k2 : ∀ x : Kept wr.heap.size wr, x.w.cell? ⟨g, c, none⟩ = some (.slice (some ⟨m'.bs c, m'.os c, none⟩) n (m'.cs c)) := fun x => by
                              have := HJ.out.1.cellRow hcn; rw [HMB'.out] at this
                              exact x.cell (World.block_lt_of_cell? _ _ this) this
                            have k3 : ∀ x : Kept wr.heap.size wr, x.w.cell? ⟨m'.bs k, m'.os k + j, none⟩ = some (.int .i64 (F k j)) := fun x => by
                              have := HJ.out.1.cellAt hkn hjn; simp [Rm.clrP] at this
                              exact x.cell (World.block_lt_of_cell? _ _ this) this
                            have k4 : ∀ x : Kept wr.heap.size wr, x.w.cell? ⟨m'.bs c, m'.os c + j, none⟩ = some (.int .i64 (F c j)) := fun x => by
                              have := HJ.out.1.cellAt hcn hjn; simp [Rm.clrP, Ne.symm hkc] at this
                              exact x.cell (World.block_lt_of_cell? _ _ this) this
                            have hm1 := Rm.mulM_lo f (F c j)
                            have hm2 := Rm.mulM_hi f (F c j)
                            go_wp2_with fail
                            refine wp_region_last' wr.heap.size (by kernel_rfl) rfl rfl (by kernel_rfl) (lastOk_of (by kernel_rfl)) ?_
                            intro hne
                            dsimp only [List.dropLast]
                            repeat (go_big_quiet_step (first | (go_at_call 79; exact Calls.kept_of (Nat.le_refl _) (sMulB_any _ _ _)) | (go_at_call 80; exact Calls.kept_of (Nat.le_refl _) (sAddB_any _ _ _))))
                            refine wpQuiet_nil ?_
                            rintro z ⟨xk, hxk⟩
                            have hR1 := xk.h
                            rw [← hxk] at hR1
                            clear hxk xk hne k1 k2 k3 k4
                            have BU : Hid (Mat X.heap.size Y.heap.size z m' n (fun _ => n) (fun r t => if r = k ∧ t < j then Rm.less1 F c k t else Rm.clrP F c k r t) ∧ OwL Y.heap.size z u9 (N1 ++ Rm.nk F c k) ∧ Below X.heap.size X z ∧ Y.heap.size ≤ z.heap.size) := by
                              obtain ⟨s1, s2, s3, s4⟩ := HJ.out
                              exact ⟨s1.keep (fun q _ h2 => hR1.block q (by omega)), s2.later hR1, s3.trans (hR1.mono (by omega)), by have := hR1.size; omega⟩
                            clear hR1 HJ
                            have g1 : z.cell? ⟨m'.bs k, m'.os k + j, none⟩ = some (.int .i64 (F k j)) := by have := BU.out.1.cellAt hkn hjn; simp [Rm.clrP] at this; exact this
                            have g3 : z.frozen? ⟨m'.bs k, m'.os k + j, none⟩ = false := (BU.out.1.row k hkn).frozen _
                            have HN : Hid (Mat X.heap.size Y.heap.size (z.setCell ⟨m'.bs k, m'.os k + j, none⟩ (.int .i64 (Rm.addM (F k j) (-(Rm.mulM f (F c j)))))) m' n (fun _ => n) (fun r t => if r = k ∧ t < j + 1 then Rm.less1 F c k t else Rm.clrP F c k r t) ∧ OwL Y.heap.size (z.setCell ⟨m'.bs k, m'.os k + j, none⟩ (.int .i64 (Rm.addM (F k j) (-(Rm.mulM f (F c j)))))) u9 (N1 ++ Rm.nk F c k) ∧ Below X.heap.size X (z.setCell ⟨m'.bs k, m'.os k + j, none⟩ (.int .i64 (Rm.addM (F k j) (-(Rm.mulM f (F c j)))))) ∧ Y.heap.size ≤ (z.setCell ⟨m'.bs k, m'.os k + j, none⟩ (.int .i64 (Rm.addM (F k j) (-(Rm.mulM f (F c j)))))).heap.size) := by
                              obtain ⟨s1, s2, s3, s4⟩ := BU.out
                              have hl := s1.rhi k hkn
                              refine ⟨(s1.set hkn hjn _).congr (fun r t hr ht => ?_), s2.keeps (fun q h1 _ => Below.heap_setCell _ _ _ _ (by show q ≠ m'.bs k; omega)), s3.setCell (p := ⟨m'.bs k, m'.os k + j, none⟩) (s1.rlo k hkn) _, by rw [World.size_setCell]; exact s4⟩
                              by_cases e : r = k ∧ t = j
                              · obtain ⟨rfl, rfl⟩ := e
                                rw [if_pos ⟨rfl, rfl⟩, if_pos ⟨rfl, by omega⟩, HFF.out.1]
                                rfl
                              · rw [if_neg e]
                                by_cases e2 : r = k ∧ t < j
                                · rw [if_pos e2, if_pos ⟨e2.1, by omega⟩]
                                · rw [if_neg e2, if_neg (by omega)]
                            clear BU
                            go_wp2
                            exact ⟨⟨j + 1, by omega, by simp, HN⟩, by simp [intOf]; omega⟩
                          · obtain rfl : n = j := by omega
                            have HM : Hid (Mat X.heap.size Y.heap.size wr m' n (fun _ => n) (Rm.clrP F c (k + 1)) ∧ OwL Y.heap.size wr u9 (N1 ++ Rm.nk F c k) ∧ Below X.heap.size X wr ∧ Y.heap.size ≤ wr.heap.size) := ⟨HJ.out.1.congr (fun r t _ ht => Rm.clrP_next HSK.out n r t ht), HJ.out.2⟩
                            have hzr : Y.heap.size ≤ wr.heap.size := HM.out.2.2.2
                            have hl3 : (N1 ++ Rm.nk F c k).length ≤ 1000000 := by rw [List.length_append]; omega
                            clear HJ
                            go_wp2_with (first | (at_builtin; refine pushC rfl (.tmp 156) (.tmp 161) rfl wr (Rm.leakC c k f) Y.heap.size u9 (N1 ++ Rm.nk F c k) rfl HM.out.2.1 rfl hl3 hzr ?_; intro v1 w6 hown6 hgr6 hnn6))
                            have HN : Hid (Mat X.heap.size Y.heap.size w6 m' n (fun _ => n) (Rm.clrP F c (k + 1)) ∧ OwL Y.heap.size w6 v1 (N1 ++ Rm.nk F c (k + 1)) ∧ Below X.heap.size X w6 ∧ Y.heap.size ≤ w6.heap.size) := by
                              obtain ⟨s1, s2, s3, s4⟩ := HM.out
                              have hB : Below Y.heap.size wr w6 := ((Below.refl Y.heap.size wr).alloc s4 _).grown hgr6 (by simp; omega) fun q hq => (World.ownsRow.lt s2 q hq).1
                              refine ⟨s1.keep (fun q _ h2 => hB.block q h2), ?_, s3.trans (hB.mono hz0), Nat.le_trans s4 hB.size⟩
                              rw [Rm.nk, if_neg HSK.out, ← HFF.out.1, ← List.append_assoc]
                              exact hown6
                            clear hown6 hgr6 HM
                            go_wp2
                            exact ⟨⟨k + 1, by omega, by simp, HN⟩, by simp [intOf]; omega⟩
                    · obtain rfl : n = k := by omega
                      have HN : Hid (Rm.pg n (rsm A) (c + 1) = some (Rm.clrP F c n, N1 ++ Rm.nk F c n) ∧ Mat X.heap.size Y.heap.size wr m' n (fun _ => n) (Rm.clrP F c n) ∧ OwL Y.heap.size wr u9 (N1 ++ Rm.nk F c n) ∧ Below X.heap.size X wr ∧ Y.heap.size ≤ wr.heap.size) := by
                        refine ⟨?_, HK.out⟩
                        have := Rm.pg_go HPG.out HPP.out.2.1
                        rw [HPP.out.1, ← HN1.out, ← HF.out] at this
                        exact this
                      clear HK
                      go_wp2
                      exact ⟨⟨c + 1, _, _, m', by omega, by simp, HMB', HN⟩, by simp [intOf]; omega⟩
          · obtain rfl : n = c := by omega
            have HP : Hid (psd n L A = (n : Int) ∧ pnp n L A = n ∧ pnc n L A = N.length ∧ (∀ i, pph n L A i = W i i) ∧ (∀ i, pC n L A i = N.reverse.getD i Rm.nilC)) := by
              have hs : pgo n L A = some (W, N) := by unfold pgo; rw [if_pos HPN.out.2.1]; exact HPG.out
              exact ⟨by simp [psd, hs], by simp [pnp, hs], by simp [pnc, hs], fun i => by simp [pph, hs], fun i => by simp [pC, hs]⟩
            obtain ⟨va, vc, hva⟩ := own_shape HS.out.2.2.1
            subst hva
            obtain ⟨Z, hZ⟩ : ∃ Z, Z = wr := ⟨_, rfl⟩
            subst hZ
            have HZ : Hid (Mat X.heap.size Y.heap.size Z m n (fun _ => n) W ∧ RdC Z (.slice va N.length vc) N.length (fun i => N.getD i Rm.nilC) ∧ Below X.heap.size X Z ∧ Y.heap.size ≤ Z.heap.size ∧ X.heap.size ≤ Z.heap.size) := ⟨HS.out.2.1, HS.out.2.2.1.rdC, HS.out.2.2.2.1, HS.out.2.2.2.2, HS.out.2.2.2.1.size⟩
            clear HS HPG HRes
            go_wp2_with fail
            go_loopw [18] (fun s wx => ∃ (k : Nat) (v : Value), k ≤ n ∧ s = .int .i64 k ∧ Hid (wx.ownsRow (Z.heap.size + 1) 2 1 v k (il (fun i => W i i) k) ∧ Blk wx Z.heap.size #[.int .i64 (n : Int), v, .slice none 0 0] 49 ∧ Below Z.heap.size Z wx)) (fun s _ => n - (intOf s).toNat)
            case atStart => exact ⟨0, .slice none 0 0, Nat.zero_le _, rfl, ⟨rfl, Or.inl ⟨rfl, rfl⟩⟩, Blk.new rfl, (Below.refl _ _).alloc (Nat.le_refl _) _⟩
            case round =>
              obtain ⟨k, v, hk, rfl, HS7⟩ := hrel
              obtain ⟨pa, pc, rfl⟩ := own_shape HS7.out.1
              have bl := HS7.out.2.1.lt
              by_cases hkn : k < n
              · have b1 := HS7.out.2.1.cell (j := 1) rfl
                have b1' : ∀ ob, (wr.alloc ob).cell? ⟨Z.heap.size, 1, none⟩ = some (.slice pa k pc) := fun ob => (((Below.refl wr.heap.size wr).alloc (Nat.le_refl _) ob).cell (p := ⟨Z.heap.size, 1, none⟩) bl).trans b1
                have bf := HS7.out.2.1.frozen 1
                have g1 : wr.cell? ⟨g, k, none⟩ = some (.slice (some ⟨m.bs k, m.os k, none⟩) n (m.cs k)) := by
                  have := HZ.out.1.cellRow hkn; rw [HMB.out] at this
                  exact (HS7.out.2.2.cell (World.block_lt_of_cell? _ _ this)).trans this
                have g2 : wr.cell? ⟨m.bs k, m.os k + k, none⟩ = some (.int .i64 (W k k)) := by
                  have := HZ.out.1.cellAt hkn hkn
                  exact (HS7.out.2.2.cell (World.block_lt_of_cell? _ _ this)).trans this
                have HO : Hid (wr.drew.ownsRow (Z.heap.size + 1) 2 1 (.slice pa k pc) k (il (fun i => W i i) k)) := owns_later HS7.out.1 ((Below.refl _ _).drew)
                have hsz : Z.heap.size + 1 ≤ wr.drew.heap.size := by rw [World.size_drew]; omega
                have hk1 : k ≤ 1000000 := by omega
                go_wp2_with fail
                go_region_law (first | (refine step_pushF rfl (.tmp 171) (.tmp 179) 32 rfl 2 (.int .i64 0) 8 Try.underlying32 info2 rfl (by decide) wr.drew (.int .i64 (W k k)) rfl (Z.heap.size + 1) (.slice pa k pc) k (il (fun i => W i i) k) (by simp [Act.eval]) HO.out 1 (by simp [Act.eval]) hk1 hsz ?_; intro v1 w6 hown6 hgr6; obtain ⟨qa, qc, rfl⟩ := own_shape hown6; have hB6 : Below (Z.heap.size + 1) wr w6 := push_below HO.out hgr6 (Below.refl _ _).drew hsz; have p1 : w6.cell? ⟨Z.heap.size, 1, none⟩ = some (.slice pa k pc) := (hB6.cell (by simp)).trans b1; have pf : w6.frozen? ⟨Z.heap.size, 1, none⟩ = false := (hB6.frozen (p := ⟨Z.heap.size, 1, none⟩) (by simp)).trans bf))
                all_goals
                  have HN : Hid ((w6.setCell ⟨Z.heap.size, 1, none⟩ (.slice qa (k + 1) qc)).ownsRow (Z.heap.size + 1) 2 1 (.slice qa (k + 1) qc) (k + 1) (il (fun i => W i i) (k + 1)) ∧ Blk (w6.setCell ⟨Z.heap.size, 1, none⟩ (.slice qa (k + 1) qc)) Z.heap.size #[.int .i64 (n : Int), .slice qa (k + 1) qc, .slice none 0 0] 49 ∧ Below Z.heap.size Z (w6.setCell ⟨Z.heap.size, 1, none⟩ (.slice qa (k + 1) qc))) := by
                    have hBx : Blk w6 Z.heap.size #[.int .i64 (n : Int), .slice pa k pc, .slice none 0 0] 49 := (hB6.block _ (by omega)).trans HS7.out.2.1
                    refine ⟨?_, hBx.set 1 _ rfl, (HS7.out.2.2.trans (hB6.mono (by omega))).setCell (by simp) _⟩
                    rw [← il_push]
                    obtain ⟨hl, ⟨_, h2⟩ | ⟨g', cap', cur', hv', hg', hh', rest'⟩⟩ := hown6
                    · omega
                    · exact ⟨hl, Or.inr ⟨g', cap', cur', hv', hg', (Below.heap_setCell _ _ _ _ (by show g' ≠ Z.heap.size; omega)).trans hh', rest'⟩⟩
                  clear HS7 hown6 hgr6 hB6 p1 pf b1 b1' bf g1 g2
                  go_wp2
                  exact ⟨⟨k + 1, _, by omega, by simp, HN⟩, by simp [intOf]; omega⟩
              · obtain rfl : n = k := by omega
                obtain ⟨gp, cpp, hv, hgl, hseg⟩ := owned_seg HS7.out.1 h0
                simp only [Value.slice.injEq] at hv
                obtain ⟨rfl, _, rfl⟩ := hv
                obtain ⟨Z2, hZ2⟩ : ∃ Z2, Z2 = wr := ⟨_, rfl⟩
                subst hZ2
                have H8 : Hid (Blk Z2 Z.heap.size #[.int .i64 (n : Int), .slice (some ⟨gp, 0, none⟩) n pc, .slice none 0 0] 49 ∧ Seg Z2 gp 2 0 n (fun i => .int .i64 (W i i)) ∧ Below Z.heap.size Z Z2) := ⟨HS7.out.2.1, hseg, HS7.out.2.2⟩
                have hgp1 : Z.heap.size + 1 ≤ gp := hgl
                have hgp2 : gp < Z2.heap.size := hseg.lt
                clear HS7 hseg hgl
                go_wp2_with fail
                go_loopw [19] (fun s wx => ∃ (j : Nat) (v : Value), j ≤ N.length ∧ s = .int .i64 ((N.length : Int) - 1 - j) ∧ Hid (OwL Z2.heap.size wx v (N.reverse.take j) ∧ Blk wx Z.heap.size #[.int .i64 (n : Int), .slice (some ⟨gp, 0, none⟩) n pc, v] 49 ∧ Seg wx gp 2 0 n (fun i => .int .i64 (W i i)) ∧ Below Z.heap.size Z wx ∧ Z2.heap.size ≤ wx.heap.size)) (fun s _ => ((intOf s) + 1).toNat)
                case atStart => exact ⟨0, .slice none 0 0, Nat.zero_le _, by simp, OwL.nil _ _, H8.out.1, H8.out.2.1, H8.out.2.2, Nat.le_refl _⟩
                case round =>
                  obtain ⟨j, v, hj, rfl, HS8⟩ := hrel
                  have htl : (N.reverse.take j).length = j := by simp; omega
                  obtain ⟨ca, cc, hcv⟩ := own_shape HS8.out.1
                  rw [htl] at hcv
                  subst hcv
                  have bl8 := HS8.out.2.1.lt
                  have hz8 : Z2.heap.size ≤ wr.heap.size := HS8.out.2.2.2.2
                  by_cases hjn : j < N.length
                  · obtain ⟨mi, hmi⟩ : ∃ mi : Nat, (mi : Int) = (N.length : Int) - 1 - j := ⟨N.length - 1 - j, by omega⟩
                    have hmn : mi < N.length := by omega
                    have HMI : Hid (mi = N.length - 1 - j ∧ (mi : Int) = (N.length : Int) - 1 - j) := ⟨by omega, hmi⟩
                    rw [← hmi]
                    clear hmi
                    obtain ⟨cb, rfl, hcc⟩ := (HZ.out.2.1.later' HS8.out.2.2.2.1).at hmn
                    obtain ⟨G, hG⟩ : ∃ G, G = N.getD mi Rm.nilC := ⟨_, rfl⟩
                    have HG : Hid (G = N.getD mi Rm.nilC) := hG
                    rw [← hG] at hcc
                    clear hG
                    have g0 : wr.cell? ⟨cb, mi * 6, none⟩ = some (.int .i64 G.i) := hcc 0 (by omega)
                    have g1 : wr.cell? ⟨cb, mi * 6 + 1, none⟩ = some (.int .i64 G.j) := hcc 1 (by omega)
                    have g2 : wr.cell? ⟨cb, mi * 6 + 2, none⟩ = some (.int .i64 G.a) := hcc 2 (by omega)
                    have g3 : wr.cell? ⟨cb, mi * 6 + 3, none⟩ = some (.int .i64 G.b) := hcc 3 (by omega)
                    have g4 : wr.cell? ⟨cb, mi * 6 + 4, none⟩ = some (.int .i64 G.c) := hcc 4 (by omega)
                    have g5 : wr.cell? ⟨cb, mi * 6 + 5, none⟩ = some (.int .i64 G.d) := hcc 5 (by omega)
                    clear hcc
                    have b1 := HS8.out.2.1.cell (j := 2) rfl
                    have b1' : ∀ ob, (wr.alloc ob).cell? ⟨Z.heap.size, 2, none⟩ = some (.slice ca j cc) := fun ob => (((Below.refl wr.heap.size wr).alloc (Nat.le_refl _) ob).cell (p := ⟨Z.heap.size, 2, none⟩) bl8).trans b1
                    have bf := HS8.out.2.1.frozen 2
                    have HO : Hid (OwL Z2.heap.size wr.drew (.slice ca j cc) (N.reverse.take j)) := HS8.out.1.later ((Below.refl _ _).drew)
                    have hsz : Z2.heap.size ≤ wr.drew.heap.size := by rw [World.size_drew]; omega
                    have hl8 : (N.reverse.take j).length ≤ 1000000 := by omega
                    go_wp2_with fail
                    go_region_law (first | (refine step_pushC rfl (.tmp 190) (.tmp 195) rfl wr.drew G Z2.heap.size (.slice ca j cc) (N.reverse.take j) (by simp [Act.eval]) HO.out (by simp [Act.eval]) hl8 hsz ?_; intro v1 w6 hown6 hgr6; obtain ⟨qa, qc, hv1⟩ := own_shape hown6; rw [List.length_append, htl] at hv1; simp only [List.length_cons, List.length_nil, Nat.zero_add] at hv1; subst hv1; have hB6 : Below Z2.heap.size wr w6 := pushV_below HO.out hgr6 (Below.refl _ _).drew hsz; have p1 : w6.cell? ⟨Z.heap.size, 2, none⟩ = some (.slice ca j cc) := (hB6.cell (by simp; omega)).trans b1; have pf : w6.frozen? ⟨Z.heap.size, 2, none⟩ = false := (hB6.frozen (p := ⟨Z.heap.size, 2, none⟩) (by simp; omega)).trans bf))
                    all_goals
                      have HN : Hid (OwL Z2.heap.size (w6.setCell ⟨Z.heap.size, 2, none⟩ (.slice qa (j + 1) qc)) (.slice qa (j + 1) qc) (N.reverse.take (j + 1)) ∧ Blk (w6.setCell ⟨Z.heap.size, 2, none⟩ (.slice qa (j + 1) qc)) Z.heap.size #[.int .i64 (n : Int), .slice (some ⟨gp, 0, none⟩) n pc, .slice qa (j + 1) qc] 49 ∧ Seg (w6.setCell ⟨Z.heap.size, 2, none⟩ (.slice qa (j + 1) qc)) gp 2 0 n (fun i => .int .i64 (W i i)) ∧ Below Z.heap.size Z (w6.setCell ⟨Z.heap.size, 2, none⟩ (.slice qa (j + 1) qc)) ∧ Z2.heap.size ≤ (w6.setCell ⟨Z.heap.size, 2, none⟩ (.slice qa (j + 1) qc)).heap.size) := by
                        obtain ⟨s1, s2, s3, s4, s5⟩ := HS8.out
                        have hBx : Blk w6 Z.heap.size #[.int .i64 (n : Int), .slice (some ⟨gp, 0, none⟩) n pc, .slice ca j cc] 49 := (hB6.block _ (by omega)).trans s2
                        refine ⟨?_, hBx.set 2 _ rfl, (s3.of_block (hB6.block _ hgp2)).setOther (by show gp ≠ Z.heap.size; omega) _, (s4.trans (hB6.mono (by omega))).setCell (by simp) _, by rw [World.size_setCell]; have := hB6.size; omega⟩
                        rw [← rev_take hjn HMI.out.1, ← HG.out]
                        exact hown6.keeps (fun q h1 _ => Below.heap_setCell _ _ _ _ (by show q ≠ Z.heap.size; omega))
                      clear HS8 hown6 hgr6 hB6 p1 pf b1 b1' bf g0 g1 g2 g3 g4 g5
                      go_wp2
                      exact ⟨⟨j + 1, _, by omega, by have := HMI.out.2; simp; omega, HN⟩, by simp [intOf] <;> omega⟩
                  · obtain rfl : N.length = j := by omega
                    have HM : Hid (OwL Z2.heap.size wr (.slice ca N.length cc) N.reverse) := by have := HS8.out.1; rw [List.take_of_length_le (by simp)] at this; exact this
                    have hr61 : Blk wr w.heap.size #[.int .i64 0, .int .i64 0, .slice none 0 0, .slice none 0 0] 61 := HX.out.1.old (HZ.out.2.2.1.trans (HS8.out.2.2.2.1.mono HZ.out.2.2.2.2))
                    have HR : Hid (Blk wr w.heap.size #[.int .i64 0, .int .i64 0, .slice none 0 0, .slice none 0 0] 61) := hr61
                    have b0 := HS8.out.2.1.cell (j := 0) rfl
                    have b1 := HS8.out.2.1.cell (j := 1) rfl
                    have b2 := HS8.out.2.1.cell (j := 2) rfl
                    have r0 := hr61.cell (j := 0) rfl
                    have r1 := hr61.cell (j := 1) rfl
                    have r2 := hr61.cell (j := 2) rfl
                    have r3 := hr61.cell (j := 3) rfl
                    have rf := hr61.frozen
                    have rl := hr61.lt
                    have hXZ : X.heap.size ≤ Z.heap.size := HZ.out.2.2.2.2
                    have HBw : Hid (Below w.heap.size w wr) := (HX.out.2.2.1).trans ((HZ.out.2.2.1.trans (HS8.out.2.2.2.1.mono hXZ)).mono (by omega))
                    clear hr61
                    have hneg : ¬ ((0 : Int) ≤ (N.length : Int) - 1 - (N.length : Int)) := by omega
                    go_wp2
                    refine bodyPost_ret (res_of (cs := #[.int .i64 0, .int .i64 (n : Int), .slice (some ⟨gp, 0, none⟩) n pc, .slice ca N.length cc]) Try.results43 rfl ((((HR.out.set 0 _ rfl).set 1 _ rfl).set 2 _ rfl).set 3 _ rfl) Try.underlying61 (by kernel_rfl)) rfl ⟨_, _, by rw [HPN.out.2.2, HP.out.1], ?_, ?_⟩
                    · rw [HP.out.2.1, HP.out.2.2.1]
                      obtain ⟨s1, s2, s3, s4, s5⟩ := HS8.out
                      have key : ∀ (q : Nat) (x1 x2 x3 x4 : Value), q ≠ w.heap.size → ((((wr.setCell ⟨w.heap.size, 0, none⟩ x1).setCell ⟨w.heap.size, 1, none⟩ x2).setCell ⟨w.heap.size, 2, none⟩ x3).setCell ⟨w.heap.size, 3, none⟩ x4).heap[q]? = wr.heap[q]? := fun q x1 x2 x3 x4 h2 => by
                        rw [Below.heap_setCell _ _ _ _ h2, Below.heap_setCell _ _ _ _ h2, Below.heap_setCell _ _ _ _ h2, Below.heap_setCell _ _ _ _ h2]
                      have hoc := HM.out.ownC
                      rw [List.length_reverse] at hoc
                      refine ⟨Or.inr ⟨gp, pc, rfl, by omega, by simp; omega, ((s3.congr fun i hi => by rw [← HP.out.2.2.2.1 i]).of_block (key gp _ _ _ _ (by omega)))⟩, ((hoc.congr fun i _ => (HP.out.2.2.2.2 i).symm).keep (fun q h1 h2 => key q _ _ _ _ (by omega))).wide (by omega) (by simp)⟩
                    · have h1 := HBw.out
                      repeat (first | exact h1 | (refine Below.setCell ?_ (by simp <;> omega) _))
  · have hne : (pcd n L A != 0) = true := by rw [bne_iff_ne]; exact hc
    have HP : Hid (psd n L A = 0 ∧ pnp n L A = 0 ∧ pnc n L A = 0) := pgo_none_all (pcd_none hc)
    clear hc HL hX HX
    have r0 := HW1.out.1.cell (j := 0) rfl
    have r1 := HW1.out.1.cell (j := 1) rfl
    have r2 := HW1.out.1.cell (j := 2) rfl
    have r3 := HW1.out.1.cell (j := 3) rfl
    have rf := HW1.out.1.frozen
    have rl := HW1.out.1.lt
    go_wp2
    refine bodyPost_ret (res_of (cs := #[.int .i64 (pcd n L A), .int .i64 0, .slice none 0 0, .slice none 0 0]) Try.results43 rfl (((((HW1.out.1).set 0 _ rfl).set 1 _ rfl).set 2 _ rfl).set 3 _ rfl |>.alloc _) Try.underlying61 (by kernel_rfl)) rfl ⟨.slice none 0 0, .slice none 0 0, by rw [HP.out.1], by rw [HP.out.2.1, HP.out.2.2]; exact MeO.nil _ _ _ _ _, ?_⟩
    have h1 := HW1.out.2
    repeat (first | exact h1 | (refine Below.setCell ?_ (by simp <;> omega) _) | (refine Below.alloc ?_ (by simp <;> omega) _))
end Go.Proofs.Ytboppklcmdfphaa
