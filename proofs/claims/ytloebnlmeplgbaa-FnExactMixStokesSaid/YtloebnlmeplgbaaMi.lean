/- Lights that are mixed: the program. -/
import Derived.Test.YtloebnlmeplgbaaSt
import Derived.Test.YtloebnlmeplgbaaRw
import Derived.Test.YtloebnlmeplgbaaLa
import Derived.Handy
namespace Go.Proofs.Ytloebnlmeplgbaa
open Go.RowKit
set_option linter.unusedVariables false
set_option linter.unusedSimpArgs false
def sadd (a b : Sk) : Sk := ⟨wrap64 (a.i + b.i), wrap64 (a.q + b.q), wrap64 (a.u + b.u), wrap64 (a.v + b.v)⟩
theorem idx4_0 (a b c d : Value) (w : World) : (Instr.index 105 (.agg #[a, b, c, d]) (.int .i64 0)).run Try.prog w = .ok a w := by
  simp [Instr.index, run_underlying Try.underlying105, asInt, asIntOf, go_sem]
theorem idx4_1 (a b c d : Value) (w : World) : (Instr.index 105 (.agg #[a, b, c, d]) (.int .i64 1)).run Try.prog w = .ok b w := by
  simp [Instr.index, run_underlying Try.underlying105, asInt, asIntOf, go_sem]
theorem idx4_2 (a b c d : Value) (w : World) : (Instr.index 105 (.agg #[a, b, c, d]) (.int .i64 2)).run Try.prog w = .ok c w := by
  simp [Instr.index, run_underlying Try.underlying105, asInt, asIntOf, go_sem]
theorem idx4_3 (a b c d : Value) (w : World) : (Instr.index 105 (.agg #[a, b, c, d]) (.int .i64 3)).run Try.prog w = .ok d w := by
  simp [Instr.index, run_underlying Try.underlying105, asInt, asIntOf, go_sem]
def sm (G : Nat → Sk) : Nat → Sk | 0 => zsk | k + 1 => sadd (sm G k) (G k)
def mf (G : Nat → Sk) : Nat → Int | 0 => 0 | k + 1 => if mf G k ≠ 0 then mf G k else scode (G k)
theorem mf_stay {G : Nat → Sk} {k : Nat} (h : mf G k ≠ 0) : ∀ d, mf G (k + d) = mf G k
  | 0 => rfl
  | d + 1 => by show (if mf G (k + d) ≠ 0 then mf G (k + d) else _) = _; rw [mf_stay h d, if_pos h]
theorem mf_first {G : Nat → Sk} {k n : Nat} (hk : k < n) (h0 : mf G k = 0) (h : scode (G k) ≠ 0) : mf G n = scode (G k) := by
  have e : mf G (k + 1) = scode (G k) := by simp [mf, h0]
  obtain ⟨d, rfl⟩ : ∃ d, n = k + 1 + d := ⟨n - (k + 1), by omega⟩
  rw [mf_stay (by rw [e]; exact h) d, e]
theorem mf_at {G : Nat → Sk} : ∀ n k, k < n → mf G n = 0 → scode (G k) = 0
  | 0, k, h, _ => absurd h (Nat.not_lt_zero _)
  | n + 1, k, h, ho => by
    by_cases hz : mf G n = 0
    · simp [mf, hz] at ho
      by_cases e : k = n
      · rw [e]; exact ho
      · exact mf_at n k (by omega) hz
    · simp [mf, hz] at ho
def mxC (G : Nat → Sk) (n : Nat) : Int := if 100 < n then 2 else if mf G n ≠ 0 then mf G n else if scode (sm G n) ≠ 0 then 3 else 0
def mxS (G : Nat → Sk) (n : Nat) : Sk := if 100 < n then zsk else if mf G n ≠ 0 then zsk else if scode (sm G n) ≠ 0 then zsk else sm G n
theorem mx_f {G : Nat → Sk} {n : Nat} (hn : n ≤ 100) (h : mf G n ≠ 0) : mxC G n = mf G n ∧ mxS G n = zsk := by simp [mxC, mxS, h, Nat.not_lt.2 hn]
theorem mx_r {G : Nat → Sk} {n : Nat} (hn : n ≤ 100) (h : mf G n = 0) (k : scode (sm G n) ≠ 0) : mxC G n = 3 ∧ mxS G n = zsk := by simp [mxC, mxS, h, k, Nat.not_lt.2 hn]
theorem mx_o {G : Nat → Sk} {n : Nat} (hn : n ≤ 100) (h : mf G n = 0) (k : scode (sm G n) = 0) : mxC G n = 0 ∧ mxS G n = sm G n := by simp [mxC, mxS, h, k, Nat.not_lt.2 hn]
set_option maxRecDepth 20000 in
set_option maxHeartbeats 3200000 in
theorem imx_some (b off n cap : Nat) (G : Nat → Sk) (w : World) (hn : n ≤ 100) (hc : ∀ i, i < n → ∀ j, j < 4 → w.cell? ⟨b, off + i * 4 + j, none⟩ = some (skc (G i) j)) : Calls Try.prog 52 #[.slice (some ⟨b, off, none⟩) n cap] w fun e w' => e = .returned (.agg #[.int .i64 (mxC G n), .int .i64 ((mxS G n).i), .int .i64 ((mxS G n).q), .int .i64 ((mxS G n).u), .int .i64 ((mxS G n).v)]) ∧ Below w.heap.size w w' := by
  have HN : Hid (n ≤ 100) := hn
  have later : ∀ (wr : World) (p : Addr) {v : Value}, w.cell? p = some v → Below w.heap.size w wr → wr.cell? p = some v := fun wr p v h hb => (hb.cell (World.block_lt_of_cell? _ _ h)).trans h
  have hn9 : ¬ (100 < (n : Int)) := by omega
  clear hn
  go_enter Try.func52, Try.ntmps52
  have HO : Hid (Below w.heap.size w w) := Below.refl _ _
  go_upto_region 4 with fail
  obtain ⟨v1, hv⟩ : ∃ Xw, Xw = ((w.alloc (.cells #[.int .i64 0, .int .i64 0, .int .i64 0, .int .i64 0, .int .i64 0] 38)).alloc (.cells #[.int .i64 0, .int .i64 0, .int .i64 0, .int .i64 0] 105)) := ⟨_, rfl⟩
  rw [← hv]
  have ne_r_m : Hid (w.heap.size ≠ w.heap.size + 1) := by show (w.heap.size : Nat) ≠ w.heap.size + 1; omega
  have B_r : Hid (Blk v1 (w.heap.size) #[.int .i64 0, .int .i64 0, .int .i64 0, .int .i64 0, .int .i64 0] 38) := by show Blk v1 (w.heap.size) _ _; rw [hv]; exact (Blk.alloc (Blk.new (by simp)) _)
  have low_r : Hid (w.heap.size ≤ w.heap.size) := by show w.heap.size ≤ w.heap.size; have := HO.out.size; omega
  have B_m : Hid (Blk v1 (w.heap.size + 1) #[.int .i64 0, .int .i64 0, .int .i64 0, .int .i64 0] 105) := by show Blk v1 (w.heap.size + 1) _ _; rw [hv]; exact (Blk.new (by simp))
  have low_m : Hid (w.heap.size ≤ w.heap.size + 1) := by show w.heap.size ≤ w.heap.size + 1; have := HO.out.size; omega
  replace HO : Hid (Below w.heap.size w v1) := by show Below w.heap.size w v1; rw [hv]; exact (below_new (below_new HO.out _) _)
  clear hv
  go_wp2_with fail
  go_loopw [16] (fun i wr => ∃ k : Nat, k ≤ n ∧ i = .int .i64 k ∧ mf G k = 0 ∧ Blk wr (w.heap.size) #[.int .i64 0, .int .i64 0, .int .i64 0, .int .i64 0, .int .i64 0] 38 ∧ Blk wr (w.heap.size + 1) #[.int .i64 ((sm G k).i), .int .i64 ((sm G k).q), .int .i64 ((sm G k).u), .int .i64 ((sm G k).v)] 105 ∧ Below w.heap.size w wr) (fun i _ => n - (intOf i).toNat)
  case atStart => exact ⟨0, Nat.zero_le _, rfl, rfl, B_r.out, B_m.out, HO.out⟩
  case round =>
    clear B_r B_m HO
    obtain ⟨k, hk, rfl, hok, br, bm, ho⟩ := hrel
    have HK : Hid (mf G k = 0) := hok
    clear hok
    by_cases hkn : k < n
    · skip
      have B_r : Hid (Blk wr (w.heap.size) #[.int .i64 0, .int .i64 0, .int .i64 0, .int .i64 0, .int .i64 0] 38) := br
      have B_m : Hid (Blk wr (w.heap.size + 1) #[.int .i64 ((sm G k).i), .int .i64 ((sm G k).q), .int .i64 ((sm G k).u), .int .i64 ((sm G k).v)] 105) := bm
      have HO : Hid (Below w.heap.size w wr) := ho
      have g0 : wr.cell? ⟨b, off + k * 4, none⟩ = some (.int .i64 ((G k).i)) := later _ _ (hc k hkn 0 (by omega)) ho
      have g1 : wr.cell? ⟨b, off + k * 4 + 1, none⟩ = some (.int .i64 ((G k).q)) := later _ _ (hc k hkn 1 (by omega)) ho
      have g2 : wr.cell? ⟨b, off + k * 4 + 2, none⟩ = some (.int .i64 ((G k).u)) := later _ _ (hc k hkn 2 (by omega)) ho
      have g3 : wr.cell? ⟨b, off + k * 4 + 3, none⟩ = some (.int .i64 ((G k).v)) := later _ _ (hc k hkn 3 (by omega)) ho
      clear br bm ho hc later
      go_upto_region 7 with fail
      clear g0 g1 g2 g3
      obtain ⟨v2, hv⟩ : ∃ Xw, Xw = (wr.alloc (.cells #[.int .i64 ((G k).i), .int .i64 ((G k).q), .int .i64 ((G k).u), .int .i64 ((G k).v)] 36)) := ⟨_, rfl⟩
      rw [← hv]
      have ne_r_e : Hid (w.heap.size ≠ wr.heap.size) := Nat.ne_of_lt (Nat.lt_of_lt_of_le B_r.out.lt (by omega))
      have ne_m_e : Hid (w.heap.size + 1 ≠ wr.heap.size) := Nat.ne_of_lt (Nat.lt_of_lt_of_le B_m.out.lt (by omega))
      have B_e : Hid (Blk v2 (wr.heap.size) #[.int .i64 ((G k).i), .int .i64 ((G k).q), .int .i64 ((G k).u), .int .i64 ((G k).v)] 36) := by show Blk v2 (wr.heap.size) _ _; rw [hv]; exact (Blk.new (by simp))
      have low_e : Hid (w.heap.size ≤ wr.heap.size) := by show w.heap.size ≤ wr.heap.size; have := HO.out.size; omega
      replace B_r : Hid (Blk v2 (w.heap.size) #[.int .i64 0, .int .i64 0, .int .i64 0, .int .i64 0, .int .i64 0] 38) := by show Blk v2 (w.heap.size) _ _; rw [hv]; exact (Blk.alloc B_r.out _)
      replace B_m : Hid (Blk v2 (w.heap.size + 1) #[.int .i64 ((sm G k).i), .int .i64 ((sm G k).q), .int .i64 ((sm G k).u), .int .i64 ((sm G k).v)] 105) := by show Blk v2 (w.heap.size + 1) _ _; rw [hv]; exact (Blk.alloc B_m.out _)
      replace HO : Hid (Below w.heap.size w v2) := by show Below w.heap.size w v2; rw [hv]; exact (below_new HO.out _)
      clear hv
      have e_0 := B_e.out.cell (j := 0) rfl
      have e_1 := B_e.out.cell (j := 1) rfl
      have e_2 := B_e.out.cell (j := 2) rfl
      have e_3 := B_e.out.cell (j := 3) rfl
      have e_f := B_e.out.frozen
      have e_z := B_e.out.lt
      go_wp2_with fail
      refine (istokF (G k) _).mono ?_
      rintro e v3 ⟨rfl, hb⟩
      clear e_0 e_1 e_2 e_3 e_f e_z
      replace B_r : Hid (Blk v3 (w.heap.size) #[.int .i64 0, .int .i64 0, .int .i64 0, .int .i64 0, .int .i64 0] 38) := by show Blk v3 (w.heap.size) _ _; exact Blk.old B_r.out hb
      replace B_m : Hid (Blk v3 (w.heap.size + 1) #[.int .i64 ((sm G k).i), .int .i64 ((sm G k).q), .int .i64 ((sm G k).u), .int .i64 ((sm G k).v)] 105) := by show Blk v3 (w.heap.size + 1) _ _; exact Blk.old B_m.out hb
      replace B_e : Hid (Blk v3 (wr.heap.size) #[.int .i64 ((G k).i), .int .i64 ((G k).q), .int .i64 ((G k).u), .int .i64 ((G k).v)] 36) := by show Blk v3 (wr.heap.size) _ _; exact Blk.old B_e.out hb
      replace HO : Hid (Below w.heap.size w v3) := box_step HO.out hb (Nat.le_refl _)
      clear hb
      by_cases hp : scode (G k) = 0
      · skip
        rw [hp]
        have e_0 := B_e.out.cell (j := 0) rfl
        have e_1 := B_e.out.cell (j := 1) rfl
        have e_2 := B_e.out.cell (j := 2) rfl
        have e_3 := B_e.out.cell (j := 3) rfl
        have e_f := B_e.out.frozen
        have e_z := B_e.out.lt
        go_wp2_with fail
        refine (inums (G k) _).mono ?_
        rintro e v4 ⟨rfl, hb⟩
        clear e_0 e_1 e_2 e_3 e_f e_z
        replace B_r : Hid (Blk v4 (w.heap.size) #[.int .i64 0, .int .i64 0, .int .i64 0, .int .i64 0, .int .i64 0] 38) := by show Blk v4 (w.heap.size) _ _; exact Blk.old B_r.out hb
        replace B_m : Hid (Blk v4 (w.heap.size + 1) #[.int .i64 ((sm G k).i), .int .i64 ((sm G k).q), .int .i64 ((sm G k).u), .int .i64 ((sm G k).v)] 105) := by show Blk v4 (w.heap.size + 1) _ _; exact Blk.old B_m.out hb
        replace B_e : Hid (Blk v4 (wr.heap.size) #[.int .i64 ((G k).i), .int .i64 ((G k).q), .int .i64 ((G k).u), .int .i64 ((G k).v)] 36) := by show Blk v4 (wr.heap.size) _ _; exact Blk.old B_e.out hb
        replace HO : Hid (Below w.heap.size w v4) := box_step HO.out hb (Nat.le_refl _)
        clear hb
        have m_f := B_m.out.frozen
        have mc0 := B_m.out.cell (j := 0) rfl
        have mc1 := B_m.out.cell (j := 1) rfl
        have mc2 := B_m.out.cell (j := 2) rfl
        have mc3 := B_m.out.cell (j := 3) rfl
        have hmz := B_m.out.lt
        have hx0 := idx4_0
        have hx1 := idx4_1
        have hx2 := idx4_2
        have hx3 := idx4_3
        go_wp2_with fail
        refine wp_loop_rounds 5 ?_
        rw [rounds_succ]
        go_wp2_with fail
        rw [rounds_succ]
        go_wp2_with fail
        rw [rounds_succ]
        go_wp2_with fail
        rw [rounds_succ]
        go_wp2_with fail
        rw [rounds_succ]
        go_wp2_with fail
        refine ⟨⟨k + 1, by omega, by simp, by simp [mf, HK.out, hp], ?_, ?_, ?_⟩, ?_⟩
        · exact (Blk.setOther (Blk.setOther (Blk.setOther (Blk.setOther B_r.out ne_r_m.out _) ne_r_m.out _) ne_r_m.out _) ne_r_m.out _)
        · exact (Blk.set (Blk.set (Blk.set (Blk.set B_m.out _ _ rfl) _ _ rfl) _ _ rfl) _ _ rfl)
        · exact (Below.setCell (Below.setCell (Below.setCell (Below.setCell HO.out low_m.out _) low_m.out _) low_m.out _) low_m.out _)
        · simp [intOf]; omega
      · skip
        have hf := mx_f HN.out (by rw [mf_first hkn HK.out hp]; exact hp)
        rw [mf_first hkn HK.out hp] at hf
        obtain ⟨cz, hcz⟩ : ∃ c, c = scode (G k) := ⟨_, rfl⟩
        rw [← hcz] at hp hf ⊢
        clear hcz
        have hpb : (cz != 0) = true := by simpa using hp
        have r_0 := B_r.out.cell (j := 0) rfl
        have r_1 := B_r.out.cell (j := 1) rfl
        have r_2 := B_r.out.cell (j := 2) rfl
        have r_3 := B_r.out.cell (j := 3) rfl
        have r_4 := B_r.out.cell (j := 4) rfl
        have r_f := B_r.out.frozen
        have r_z := B_r.out.lt
        go_wp2
        refine bodyPost_ret (v := .agg #[.int .i64 cz, .int .i64 0, .int .i64 0, .int .i64 0, .int .i64 0]) (by simp [results, Try.results52, go_sem, r_0, r_1, r_2, r_3, r_4, r_f, r_z] <;> (repeat' (first | rfl | apply And.intro))) rfl ⟨by rw [hf.1, hf.2]; rfl, ?_⟩
        exact (Below.setCell (Below.setCell (Below.setCell (Below.setCell (Below.setCell HO.out low_r.out _) low_r.out _) low_r.out _) low_r.out _) low_r.out _)
    · obtain rfl : k = n := by omega
      have B_r : Hid (Blk wr (w.heap.size) #[.int .i64 0, .int .i64 0, .int .i64 0, .int .i64 0, .int .i64 0] 38) := br
      have B_m : Hid (Blk wr (w.heap.size + 1) #[.int .i64 ((sm G k).i), .int .i64 ((sm G k).q), .int .i64 ((sm G k).u), .int .i64 ((sm G k).v)] 105) := bm
      have HO : Hid (Below w.heap.size w wr) := ho
      clear hc later br bm ho
      have m_0 := B_m.out.cell (j := 0) rfl
      have m_1 := B_m.out.cell (j := 1) rfl
      have m_2 := B_m.out.cell (j := 2) rfl
      have m_3 := B_m.out.cell (j := 3) rfl
      have m_f := B_m.out.frozen
      have m_z := B_m.out.lt
      go_wp2_with fail
      refine (istok (sm G k) _).mono ?_
      rintro e v2 ⟨rfl, hb⟩
      clear m_0 m_1 m_2 m_3 m_f m_z
      replace B_r : Hid (Blk v2 (w.heap.size) #[.int .i64 0, .int .i64 0, .int .i64 0, .int .i64 0, .int .i64 0] 38) := by show Blk v2 (w.heap.size) _ _; exact Blk.old B_r.out hb
      replace B_m : Hid (Blk v2 (w.heap.size + 1) #[.int .i64 ((sm G k).i), .int .i64 ((sm G k).q), .int .i64 ((sm G k).u), .int .i64 ((sm G k).v)] 105) := by show Blk v2 (w.heap.size + 1) _ _; exact Blk.old B_m.out hb
      replace HO : Hid (Below w.heap.size w v2) := box_step HO.out hb (Nat.le_refl _)
      clear hb
      go_wp2_with fail
      refine (istokF (sm G k) _).mono ?_
      rintro e v3 ⟨rfl, hb⟩
      replace B_r : Hid (Blk v3 (w.heap.size) #[.int .i64 0, .int .i64 0, .int .i64 0, .int .i64 0, .int .i64 0] 38) := by show Blk v3 (w.heap.size) _ _; exact Blk.old B_r.out hb
      replace B_m : Hid (Blk v3 (w.heap.size + 1) #[.int .i64 ((sm G k).i), .int .i64 ((sm G k).q), .int .i64 ((sm G k).u), .int .i64 ((sm G k).v)] 105) := by show Blk v3 (w.heap.size + 1) _ _; exact Blk.old B_m.out hb
      replace HO : Hid (Below w.heap.size w v3) := box_step HO.out hb (Nat.le_refl _)
      clear hb
      by_cases hp : scode (sm G k) = 0
      · skip
        have hf := mx_o HN.out HK.out hp
        rw [hp]
        have m_0 := B_m.out.cell (j := 0) rfl
        have m_1 := B_m.out.cell (j := 1) rfl
        have m_2 := B_m.out.cell (j := 2) rfl
        have m_3 := B_m.out.cell (j := 3) rfl
        have m_f := B_m.out.frozen
        have m_z := B_m.out.lt
        go_wp2_with fail
        refine (istok (sm G k) _).mono ?_
        rintro e v4 ⟨rfl, hb⟩
        clear m_0 m_1 m_2 m_3 m_f m_z
        replace B_r : Hid (Blk v4 (w.heap.size) #[.int .i64 0, .int .i64 0, .int .i64 0, .int .i64 0, .int .i64 0] 38) := by show Blk v4 (w.heap.size) _ _; exact Blk.old B_r.out hb
        replace B_m : Hid (Blk v4 (w.heap.size + 1) #[.int .i64 ((sm G k).i), .int .i64 ((sm G k).q), .int .i64 ((sm G k).u), .int .i64 ((sm G k).v)] 105) := by show Blk v4 (w.heap.size + 1) _ _; exact Blk.old B_m.out hb
        replace HO : Hid (Below w.heap.size w v4) := box_step HO.out hb (Nat.le_refl _)
        clear hb
        have r_0 := B_r.out.cell (j := 0) rfl
        have r_1 := B_r.out.cell (j := 1) rfl
        have r_2 := B_r.out.cell (j := 2) rfl
        have r_3 := B_r.out.cell (j := 3) rfl
        have r_4 := B_r.out.cell (j := 4) rfl
        have r_f := B_r.out.frozen
        have r_z := B_r.out.lt
        go_wp2
        refine bodyPost_ret (v := .agg #[.int .i64 0, .int .i64 ((sm G k).i), .int .i64 ((sm G k).q), .int .i64 ((sm G k).u), .int .i64 ((sm G k).v)]) (by simp [results, Try.results52, go_sem, r_0, r_1, r_2, r_3, r_4, r_f, r_z] <;> (repeat' (first | rfl | apply And.intro))) rfl ⟨by rw [hf.1, hf.2], ?_⟩
        exact (Below.setCell (Below.setCell (Below.setCell (Below.setCell (Below.setCell HO.out low_r.out _) low_r.out _) low_r.out _) low_r.out _) low_r.out _)
      · skip
        have hf := mx_r HN.out HK.out hp
        obtain ⟨cz, hcz⟩ : ∃ c, c = scode (sm G k) := ⟨_, rfl⟩
        rw [← hcz] at hp ⊢
        clear hcz
        have hpb : (cz != 0) = true := by simpa using hp
        have r_0 := B_r.out.cell (j := 0) rfl
        have r_1 := B_r.out.cell (j := 1) rfl
        have r_2 := B_r.out.cell (j := 2) rfl
        have r_3 := B_r.out.cell (j := 3) rfl
        have r_4 := B_r.out.cell (j := 4) rfl
        have r_f := B_r.out.frozen
        have r_z := B_r.out.lt
        go_wp2
        refine bodyPost_ret (v := .agg #[.int .i64 3, .int .i64 0, .int .i64 0, .int .i64 0, .int .i64 0]) (by simp [results, Try.results52, go_sem, r_0, r_1, r_2, r_3, r_4, r_f, r_z] <;> (repeat' (first | rfl | apply And.intro))) rfl ⟨by rw [hf.1, hf.2]; rfl, ?_⟩
        exact (Below.setCell (Below.setCell (Below.setCell (Below.setCell (Below.setCell HO.out low_r.out _) low_r.out _) low_r.out _) low_r.out _) low_r.out _)
end Go.Proofs.Ytloebnlmeplgbaa
