/- A light's numbers through rows: the program's PassStokes. -/
import Derived.Test.YtloebnlmeplgbaaHs
import Derived.Handy
namespace Go.Proofs.Ytloebnlmeplgbaa
open Go.RowKit
set_option linter.unusedVariables false
set_option linter.unusedSimpArgs false
/-- The products' sums, one row's. -/
def psn (F : Rm.Mx) (a : Sk) (k : Nat) : Nat → Int | 0 => 0 | q + 1 => wrap64 (psn F a k q + wrap64 (F k q * snum a q))
def prn (F : Rm.Mx) (a : Sk) (k : Nat) : Int := psn F a k 4
def pcd (n : Nat) (L : Nat → Nat) (F : Rm.Mx) (a : Sk) : Int := if mcode n L F ≠ 0 then mcode n L F else if scode a ≠ 0 then scode a else hcode (prn F a)
def psk (n : Nat) (L : Nat → Nat) (F : Rm.Mx) (a : Sk) : Sk := if mcode n L F ≠ 0 then ⟨0, 0, 0, 0⟩ else if scode a ≠ 0 then ⟨0, 0, 0, 0⟩ else hsk (prn F a)
theorem wrap_in (n : Int) : -9223372036854775808 ≤ wrap64 n ∧ wrap64 n ≤ 9223372036854775807 := by unfold wrap64; omega
theorem prn_in (F : Rm.Mx) (a : Sk) (k : Nat) : -9223372036854775808 ≤ prn F a k ∧ prn F a k ≤ 9223372036854775807 := wrap_in _
theorem mcode_four {n : Nat} {L : Nat → Nat} {F : Rm.Mx} (h : mcode n L F = 0) : n = 4 ∧ lensOk L 4 = true ∧ numsOk F 4 = true := by
  unfold mcode at h
  split at h
  · cases h
  · split at h
    · cases h
    · split at h
      · cases h
      · refine ⟨by omega, ?_, ?_⟩ <;> simp_all
/-- Where a row lies that has four numbers. -/
theorem row_four {w : World} {v : Value} {f : Nat → Int} (h : RdRow w v 4 f) : ∃ b off cap, v = .slice (some ⟨b, off, none⟩) 4 cap ∧ ∀ i, i < 4 → w.cell? ⟨b, off + i, none⟩ = some (.int .i64 (f i)) := by
  rcases h with ⟨ao, cap, rfl, h⟩ | ⟨b, off, cap, rfl, h⟩
  · cases h
  · exact ⟨b, off, cap, rfl, h⟩
theorem mat_four {w : World} {v : Value} {L : Nat → Nat} {F : Rm.Mx} (h : RdMat w v 4 L F) (hL : lensOk L 4 = true) : ∃ (b off cap : Nat) (rb ro rc : Nat → Nat), v = .slice (some ⟨b, off, none⟩) 4 cap ∧
    ∀ k, k < 4 → w.cell? ⟨b, off + k, none⟩ = some (.slice (some ⟨rb k, ro k, none⟩) 4 (rc k)) ∧ ∀ q, q < 4 → w.cell? ⟨rb k, ro k + q, none⟩ = some (.int .i64 (F k q)) := by
  rcases h with ⟨ao, cap, rfl, h⟩ | ⟨b, off, cap, vs, rfl, hc⟩
  · cases h
  have each : ∀ k : Nat, ∃ x : Nat × Nat × Nat, k < 4 → vs k = .slice (some ⟨x.1, x.2.1, none⟩) 4 x.2.2 ∧ ∀ q, q < 4 → w.cell? ⟨x.1, x.2.1 + q, none⟩ = some (.int .i64 (F k q)) := fun k => by
    by_cases hk : k < 4
    · have h1 := (hc k hk).2
      rw [lens_at 4 k hk hL] at h1
      obtain ⟨b', o', c', e, g⟩ := row_four h1
      exact ⟨(b', o', c'), fun _ => ⟨e, g⟩⟩
    · exact ⟨(0, 0, 0), fun h => absurd h hk⟩
  refine ⟨b, off, cap, fun k => (Classical.choose (each k)).1, fun k => (Classical.choose (each k)).2.1, fun k => (Classical.choose (each k)).2.2, rfl, fun k hk => ?_⟩
  obtain ⟨e, g⟩ := Classical.choose_spec (each k) hk
  exact ⟨by rw [(hc k hk).1, e], g⟩
theorem imf_grow {w : World} {v : Value} {n : Nat} {L : Nat → Nat} {F : Rm.Mx} (h : RdMat w v n L F) : Calls Try.prog 72 #[v] w fun e w' => e = .returned (.int .i64 (mcode n L F)) ∧ Below w.heap.size w w' :=
  (imf_any h).mono fun e w' h => ⟨h.1, by rw [← h.2]; exact Below.refl _ _⟩
set_option maxRecDepth 20000 in
set_option maxHeartbeats 3200000 in
theorem ips_1 (ao : Option Addr) (n cap : Nat) (L : Nat → Nat) (F : Rm.Mx) (a : Sk) (w : World) (h : RdMat w (.slice ao n cap) n L F) (hm : mcode n L F ≠ 0) : Calls Try.prog 24 #[.slice ao n cap, .agg #[.int .i64 a.i, .int .i64 a.q, .int .i64 a.u, .int .i64 a.v]] w fun e w' => e = .returned (.agg #[.int .i64 (mcode n L F), .int .i64 0, .int .i64 0, .int .i64 0, .int .i64 0]) ∧ Below w.heap.size w w' := by
  have H : Hid (RdMat w (.slice ao n cap) n L F) := h
  clear h
  obtain ⟨cz, hcz⟩ : ∃ c, c = mcode n L F := ⟨_, rfl⟩
  rw [← hcz]
  have hpb : (cz != 0) = true := by rw [hcz]; simpa using hm
  go_enter Try.func24, Try.ntmps24
  have HO : Hid (Below w.heap.size w w) := Below.refl _ _
  go_upto_region 1 with fail
  obtain ⟨v1, hv⟩ : ∃ Xw, Xw = ((w.alloc (.cells #[.int .i64 a.i, .int .i64 a.q, .int .i64 a.u, .int .i64 a.v] 36)).alloc (.cells #[.int .i64 0, .int .i64 0, .int .i64 0, .int .i64 0, .int .i64 0] 38)) := ⟨_, rfl⟩
  rw [← hv]
  have ne_s_r : Hid (w.heap.size ≠ w.heap.size + 1) := by show (w.heap.size : Nat) ≠ w.heap.size + 1; omega
  have B_s : Hid (Blk v1 (w.heap.size) #[.int .i64 a.i, .int .i64 a.q, .int .i64 a.u, .int .i64 a.v] 36) := by show Blk v1 (w.heap.size) _ _; rw [hv]; exact (Blk.alloc (Blk.new (by simp)) _)
  have low_s : Hid (w.heap.size ≤ w.heap.size) := by show w.heap.size ≤ w.heap.size; have := HO.out.size; omega
  have B_r : Hid (Blk v1 (w.heap.size + 1) #[.int .i64 0, .int .i64 0, .int .i64 0, .int .i64 0, .int .i64 0] 38) := by show Blk v1 (w.heap.size + 1) _ _; rw [hv]; exact (Blk.new (by simp))
  have low_r : Hid (w.heap.size ≤ w.heap.size + 1) := by show w.heap.size ≤ w.heap.size + 1; have := HO.out.size; omega
  replace HO : Hid (Below w.heap.size w v1) := by show Below w.heap.size w v1; rw [hv]; exact (below_new (below_new HO.out _) _)
  clear hv
  go_wp2_with fail
  refine (imf_grow (H.out.later HO.out)).mono ?_
  rintro e v2 ⟨rfl, hb⟩
  replace B_s : Hid (Blk v2 (w.heap.size) #[.int .i64 a.i, .int .i64 a.q, .int .i64 a.u, .int .i64 a.v] 36) := by show Blk v2 (w.heap.size) _ _; exact Blk.old B_s.out hb
  replace B_r : Hid (Blk v2 (w.heap.size + 1) #[.int .i64 0, .int .i64 0, .int .i64 0, .int .i64 0, .int .i64 0] 38) := by show Blk v2 (w.heap.size + 1) _ _; exact Blk.old B_r.out hb
  replace HO : Hid (Below w.heap.size w v2) := box_step HO.out hb (Nat.le_refl _)
  clear hb
  rw [← hcz]
  clear hcz
  have r_0 := B_r.out.cell (j := 0) rfl
  have r_1 := B_r.out.cell (j := 1) rfl
  have r_2 := B_r.out.cell (j := 2) rfl
  have r_3 := B_r.out.cell (j := 3) rfl
  have r_4 := B_r.out.cell (j := 4) rfl
  have r_f := B_r.out.frozen
  have r_z := B_r.out.lt
  go_wp2
  refine bodyPost_ret (v := .agg #[.int .i64 cz, .int .i64 0, .int .i64 0, .int .i64 0, .int .i64 0]) (by simp [results, Try.results24, go_sem, r_0, r_1, r_2, r_3, r_4, r_f, r_z] <;> (repeat' (first | rfl | apply And.intro))) rfl ⟨rfl, ?_⟩
  exact (Below.setCell (Below.setCell (Below.setCell (Below.setCell (Below.setCell HO.out low_r.out _) low_r.out _) low_r.out _) low_r.out _) low_r.out _)
set_option maxRecDepth 20000 in
set_option maxHeartbeats 3200000 in
theorem ips_2 (ao : Option Addr) (n cap : Nat) (L : Nat → Nat) (F : Rm.Mx) (a : Sk) (w : World) (h : RdMat w (.slice ao n cap) n L F) (hm : mcode n L F = 0) (hs : scode a ≠ 0) : Calls Try.prog 24 #[.slice ao n cap, .agg #[.int .i64 a.i, .int .i64 a.q, .int .i64 a.u, .int .i64 a.v]] w fun e w' => e = .returned (.agg #[.int .i64 (scode a), .int .i64 0, .int .i64 0, .int .i64 0, .int .i64 0]) ∧ Below w.heap.size w w' := by
  have H : Hid (RdMat w (.slice ao n cap) n L F) := h
  clear h
  obtain ⟨cz, hcz⟩ : ∃ c, c = scode a := ⟨_, rfl⟩
  rw [← hcz]
  have hpb : (cz != 0) = true := by rw [hcz]; simpa using hs
  go_enter Try.func24, Try.ntmps24
  have HO : Hid (Below w.heap.size w w) := Below.refl _ _
  go_upto_region 1 with fail
  obtain ⟨v1, hv⟩ : ∃ Xw, Xw = ((w.alloc (.cells #[.int .i64 a.i, .int .i64 a.q, .int .i64 a.u, .int .i64 a.v] 36)).alloc (.cells #[.int .i64 0, .int .i64 0, .int .i64 0, .int .i64 0, .int .i64 0] 38)) := ⟨_, rfl⟩
  rw [← hv]
  have ne_s_r : Hid (w.heap.size ≠ w.heap.size + 1) := by show (w.heap.size : Nat) ≠ w.heap.size + 1; omega
  have B_s : Hid (Blk v1 (w.heap.size) #[.int .i64 a.i, .int .i64 a.q, .int .i64 a.u, .int .i64 a.v] 36) := by show Blk v1 (w.heap.size) _ _; rw [hv]; exact (Blk.alloc (Blk.new (by simp)) _)
  have low_s : Hid (w.heap.size ≤ w.heap.size) := by show w.heap.size ≤ w.heap.size; have := HO.out.size; omega
  have B_r : Hid (Blk v1 (w.heap.size + 1) #[.int .i64 0, .int .i64 0, .int .i64 0, .int .i64 0, .int .i64 0] 38) := by show Blk v1 (w.heap.size + 1) _ _; rw [hv]; exact (Blk.new (by simp))
  have low_r : Hid (w.heap.size ≤ w.heap.size + 1) := by show w.heap.size ≤ w.heap.size + 1; have := HO.out.size; omega
  replace HO : Hid (Below w.heap.size w v1) := by show Below w.heap.size w v1; rw [hv]; exact (below_new (below_new HO.out _) _)
  clear hv
  go_wp2_with fail
  refine (imf_grow (H.out.later HO.out)).mono ?_
  rintro e v2 ⟨rfl, hb⟩
  replace B_s : Hid (Blk v2 (w.heap.size) #[.int .i64 a.i, .int .i64 a.q, .int .i64 a.u, .int .i64 a.v] 36) := by show Blk v2 (w.heap.size) _ _; exact Blk.old B_s.out hb
  replace B_r : Hid (Blk v2 (w.heap.size + 1) #[.int .i64 0, .int .i64 0, .int .i64 0, .int .i64 0, .int .i64 0] 38) := by show Blk v2 (w.heap.size + 1) _ _; exact Blk.old B_r.out hb
  replace HO : Hid (Below w.heap.size w v2) := box_step HO.out hb (Nat.le_refl _)
  clear hb
  rw [hm]
  have s_0 := B_s.out.cell (j := 0) rfl
  have s_1 := B_s.out.cell (j := 1) rfl
  have s_2 := B_s.out.cell (j := 2) rfl
  have s_3 := B_s.out.cell (j := 3) rfl
  have s_f := B_s.out.frozen
  have s_z := B_s.out.lt
  go_wp2_with fail
  refine (istokF a _).mono ?_
  rintro e v3 ⟨rfl, hb⟩
  clear s_0 s_1 s_2 s_3 s_f s_z
  replace B_s : Hid (Blk v3 (w.heap.size) #[.int .i64 a.i, .int .i64 a.q, .int .i64 a.u, .int .i64 a.v] 36) := by show Blk v3 (w.heap.size) _ _; exact Blk.old B_s.out hb
  replace B_r : Hid (Blk v3 (w.heap.size + 1) #[.int .i64 0, .int .i64 0, .int .i64 0, .int .i64 0, .int .i64 0] 38) := by show Blk v3 (w.heap.size + 1) _ _; exact Blk.old B_r.out hb
  replace HO : Hid (Below w.heap.size w v3) := box_step HO.out hb (Nat.le_refl _)
  clear hb
  rw [← hcz]
  clear hcz
  have r_0 := B_r.out.cell (j := 0) rfl
  have r_1 := B_r.out.cell (j := 1) rfl
  have r_2 := B_r.out.cell (j := 2) rfl
  have r_3 := B_r.out.cell (j := 3) rfl
  have r_4 := B_r.out.cell (j := 4) rfl
  have r_f := B_r.out.frozen
  have r_z := B_r.out.lt
  go_wp2
  refine bodyPost_ret (v := .agg #[.int .i64 cz, .int .i64 0, .int .i64 0, .int .i64 0, .int .i64 0]) (by simp [results, Try.results24, go_sem, r_0, r_1, r_2, r_3, r_4, r_f, r_z] <;> (repeat' (first | rfl | apply And.intro))) rfl ⟨rfl, ?_⟩
  exact (Below.setCell (Below.setCell (Below.setCell (Below.setCell (Below.setCell HO.out low_r.out _) low_r.out _) low_r.out _) low_r.out _) low_r.out _)
set_option maxRecDepth 20000 in
set_option maxHeartbeats 6400000 in
theorem ips_3 (b off cap : Nat) (rb ro rc : Nat → Nat) (L : Nat → Nat) (F : Rm.Mx) (a : Sk) (w : World) (h : RdMat w (.slice (some ⟨b, off, none⟩) 4 cap) 4 L F) (hm : mcode 4 L F = 0) (hs : scode a = 0) (hc : ∀ k, k < 4 → w.cell? ⟨b, off + k, none⟩ = some (.slice (some ⟨rb k, ro k, none⟩) 4 (rc k)) ∧ ∀ q, q < 4 → w.cell? ⟨rb k, ro k + q, none⟩ = some (.int .i64 (F k q))) : Calls Try.prog 24 #[.slice (some ⟨b, off, none⟩) 4 cap, .agg #[.int .i64 a.i, .int .i64 a.q, .int .i64 a.u, .int .i64 a.v]] w fun e w' => e = .returned (.agg #[.int .i64 (hcode (prn F a)), .int .i64 ((hsk (prn F a)).i), .int .i64 ((hsk (prn F a)).q), .int .i64 ((hsk (prn F a)).u), .int .i64 ((hsk (prn F a)).v)]) ∧ Below w.heap.size w w' := by
  have H : Hid (RdMat w (.slice (some ⟨b, off, none⟩) 4 cap) 4 L F) := h
  clear h
  replace hc : Hid _ := hc
  have later : ∀ (wr : World) (p : Addr) {v : Value}, w.cell? p = some v → Below w.heap.size w wr → wr.cell? p = some v := fun wr p v h hb => (hb.cell (World.block_lt_of_cell? _ _ h)).trans h
  replace later : Hid _ := later
  go_enter Try.func24, Try.ntmps24
  have HO : Hid (Below w.heap.size w w) := Below.refl _ _
  go_upto_region 1 with fail
  obtain ⟨v1, hv⟩ : ∃ Xw, Xw = ((w.alloc (.cells #[.int .i64 a.i, .int .i64 a.q, .int .i64 a.u, .int .i64 a.v] 36)).alloc (.cells #[.int .i64 0, .int .i64 0, .int .i64 0, .int .i64 0, .int .i64 0] 38)) := ⟨_, rfl⟩
  rw [← hv]
  have ne_s_r : Hid (w.heap.size ≠ w.heap.size + 1) := by show (w.heap.size : Nat) ≠ w.heap.size + 1; omega
  have B_s : Hid (Blk v1 (w.heap.size) #[.int .i64 a.i, .int .i64 a.q, .int .i64 a.u, .int .i64 a.v] 36) := by show Blk v1 (w.heap.size) _ _; rw [hv]; exact (Blk.alloc (Blk.new (by simp)) _)
  have low_s : Hid (w.heap.size ≤ w.heap.size) := by show w.heap.size ≤ w.heap.size; have := HO.out.size; omega
  have B_r : Hid (Blk v1 (w.heap.size + 1) #[.int .i64 0, .int .i64 0, .int .i64 0, .int .i64 0, .int .i64 0] 38) := by show Blk v1 (w.heap.size + 1) _ _; rw [hv]; exact (Blk.new (by simp))
  have low_r : Hid (w.heap.size ≤ w.heap.size + 1) := by show w.heap.size ≤ w.heap.size + 1; have := HO.out.size; omega
  replace HO : Hid (Below w.heap.size w v1) := by show Below w.heap.size w v1; rw [hv]; exact (below_new (below_new HO.out _) _)
  clear hv
  go_wp2_with fail
  refine (imf_grow (H.out.later HO.out)).mono ?_
  rintro e v2 ⟨rfl, hb⟩
  replace B_s : Hid (Blk v2 (w.heap.size) #[.int .i64 a.i, .int .i64 a.q, .int .i64 a.u, .int .i64 a.v] 36) := by show Blk v2 (w.heap.size) _ _; exact Blk.old B_s.out hb
  replace B_r : Hid (Blk v2 (w.heap.size + 1) #[.int .i64 0, .int .i64 0, .int .i64 0, .int .i64 0, .int .i64 0] 38) := by show Blk v2 (w.heap.size + 1) _ _; exact Blk.old B_r.out hb
  replace HO : Hid (Below w.heap.size w v2) := box_step HO.out hb (Nat.le_refl _)
  clear hb
  rw [hm]
  have s_0 := B_s.out.cell (j := 0) rfl
  have s_1 := B_s.out.cell (j := 1) rfl
  have s_2 := B_s.out.cell (j := 2) rfl
  have s_3 := B_s.out.cell (j := 3) rfl
  have s_f := B_s.out.frozen
  have s_z := B_s.out.lt
  go_wp2_with fail
  refine (istokF a _).mono ?_
  rintro e v3 ⟨rfl, hb⟩
  clear s_0 s_1 s_2 s_3 s_f s_z
  replace B_s : Hid (Blk v3 (w.heap.size) #[.int .i64 a.i, .int .i64 a.q, .int .i64 a.u, .int .i64 a.v] 36) := by show Blk v3 (w.heap.size) _ _; exact Blk.old B_s.out hb
  replace B_r : Hid (Blk v3 (w.heap.size + 1) #[.int .i64 0, .int .i64 0, .int .i64 0, .int .i64 0, .int .i64 0] 38) := by show Blk v3 (w.heap.size + 1) _ _; exact Blk.old B_r.out hb
  replace HO : Hid (Below w.heap.size w v3) := box_step HO.out hb (Nat.le_refl _)
  clear hb
  rw [hs]
  go_upto_region 8 with fail
  obtain ⟨v4, hv⟩ : ∃ Xw, Xw = (v3.alloc (.cells #[.int .i64 0, .int .i64 0, .int .i64 0, .int .i64 0] 105)) := ⟨_, rfl⟩
  rw [← hv]
  have ne_s_m : Hid (w.heap.size ≠ v3.heap.size) := Nat.ne_of_lt (Nat.lt_of_lt_of_le B_s.out.lt (by omega))
  have ne_r_m : Hid (w.heap.size + 1 ≠ v3.heap.size) := Nat.ne_of_lt (Nat.lt_of_lt_of_le B_r.out.lt (by omega))
  have B_m : Hid (Blk v4 (v3.heap.size) #[.int .i64 0, .int .i64 0, .int .i64 0, .int .i64 0] 105) := by show Blk v4 (v3.heap.size) _ _; rw [hv]; exact (Blk.new (by simp))
  have low_m : Hid (w.heap.size ≤ v3.heap.size) := by show w.heap.size ≤ v3.heap.size; have := HO.out.size; omega
  replace B_s : Hid (Blk v4 (w.heap.size) #[.int .i64 a.i, .int .i64 a.q, .int .i64 a.u, .int .i64 a.v] 36) := by show Blk v4 (w.heap.size) _ _; rw [hv]; exact (Blk.alloc B_s.out _)
  replace B_r : Hid (Blk v4 (w.heap.size + 1) #[.int .i64 0, .int .i64 0, .int .i64 0, .int .i64 0, .int .i64 0] 38) := by show Blk v4 (w.heap.size + 1) _ _; rw [hv]; exact (Blk.alloc B_r.out _)
  replace HO : Hid (Below w.heap.size w v4) := by show Below w.heap.size w v4; rw [hv]; exact (below_new HO.out _)
  clear hv
  have S0 : Seg v4 (v3.heap.size) 105 0 4 (fun i => .int .i64 (if i < 0 then prn F a i else 0)) := ⟨_, B_m.out, lt4 rfl rfl rfl rfl⟩
  have hmr : Hid (w.heap.size ≠ v3.heap.size ∧ w.heap.size + 1 ≠ v3.heap.size ∧ w.heap.size ≤ v3.heap.size) := ⟨ne_s_m.out, ne_r_m.out, low_m.out⟩
  obtain ⟨mb, hmb⟩ : ∃ x, x = v3.heap.size := ⟨_, rfl⟩
  rw [← hmb] at S0 hmr ⊢
  clear B_m low_m ne_s_m ne_r_m hmb
  go_wp2_with fail
  go_loopw [27] (fun i wr => ∃ k : Nat, k ≤ 4 ∧ i = .int .i64 k ∧ Blk wr (w.heap.size) #[.int .i64 a.i, .int .i64 a.q, .int .i64 a.u, .int .i64 a.v] 36 ∧ Blk wr (w.heap.size + 1) #[.int .i64 0, .int .i64 0, .int .i64 0, .int .i64 0, .int .i64 0] 38 ∧ Seg wr mb 105 0 4 (fun i => .int .i64 (if i < k then prn F a i else 0)) ∧ Below w.heap.size w wr) (fun i _ => 4 - (intOf i).toNat)
  case atStart => exact ⟨0, Nat.zero_le _, rfl, B_s.out, B_r.out, S0, HO.out⟩
  case round =>
    clear B_s B_r HO S0
    obtain ⟨k, hk, rfl, bs, br, sg, ho⟩ := hrel
    by_cases hkn : k < 4
    · skip
      have B_s : Hid (Blk wr (w.heap.size) #[.int .i64 a.i, .int .i64 a.q, .int .i64 a.u, .int .i64 a.v] 36) := bs
      have B_r : Hid (Blk wr (w.heap.size + 1) #[.int .i64 0, .int .i64 0, .int .i64 0, .int .i64 0, .int .i64 0] 38) := br
      have HO : Hid (Below w.heap.size w wr) := ho
      have HS : Hid (Seg wr mb 105 0 4 (fun i => .int .i64 (if i < k then prn F a i else 0))) := sg
      clear bs br sg ho
      obtain ⟨gk, gq⟩ := hc.out k hkn
      have GQ : Hid (∀ q, q < 4 → w.cell? ⟨rb k, ro k + q, none⟩ = some (.int .i64 (F k q))) := gq
      clear gq
      replace gk := later.out wr _ gk HO.out
      have s_0 := B_s.out.cell (j := 0) rfl
      have s_1 := B_s.out.cell (j := 1) rfl
      have s_2 := B_s.out.cell (j := 2) rfl
      have s_3 := B_s.out.cell (j := 3) rfl
      have s_f := B_s.out.frozen
      have s_z := B_s.out.lt
      go_wp2_with fail
      refine (inums a _).mono ?_
      rintro e v5 ⟨rfl, hb⟩
      replace HS : Hid (Seg v5 mb 105 0 4 (fun i => .int .i64 (if i < k then prn F a i else 0))) := HS.out.of_block (hb.block _ HS.out.lt)
      clear gk
      clear s_0 s_1 s_2 s_3 s_f s_z
      replace B_s : Hid (Blk v5 (w.heap.size) #[.int .i64 a.i, .int .i64 a.q, .int .i64 a.u, .int .i64 a.v] 36) := by show Blk v5 (w.heap.size) _ _; exact Blk.old B_s.out hb
      replace B_r : Hid (Blk v5 (w.heap.size + 1) #[.int .i64 0, .int .i64 0, .int .i64 0, .int .i64 0, .int .i64 0] 38) := by show Blk v5 (w.heap.size + 1) _ _; exact Blk.old B_r.out hb
      replace HO : Hid (Below w.heap.size w v5) := box_step HO.out hb (Nat.le_refl _)
      clear hb
      have S1 : Seg v5 mb 105 0 4 (fun i => .int .i64 (if i < k then prn F a i else if i = k then psn F a k 0 else 0)) := HS.out.congr fun i _ => by by_cases e : i < k <;> by_cases e2 : i = k <;> simp [e, e2, psn]
      go_wp2_with fail
      go_loopw [34] (fun i wr => ∃ q : Nat, q ≤ 4 ∧ i = .int .i64 q ∧ Blk wr (w.heap.size) #[.int .i64 a.i, .int .i64 a.q, .int .i64 a.u, .int .i64 a.v] 36 ∧ Blk wr (w.heap.size + 1) #[.int .i64 0, .int .i64 0, .int .i64 0, .int .i64 0, .int .i64 0] 38 ∧ Seg wr mb 105 0 4 (fun i => .int .i64 (if i < k then prn F a i else if i = k then psn F a k q else 0)) ∧ Below w.heap.size w wr) (fun i _ => 4 - (intOf i).toNat)
      case atStart => exact ⟨0, Nat.zero_le _, rfl, B_s.out, B_r.out, S1, HO.out⟩
      case round =>
        clear B_s B_r HO S1 HS
        obtain ⟨q, hq, rfl, bs, br, sg, ho⟩ := hrel
        by_cases hqn : q < 4
        · skip
          have B_s : Hid (Blk wr (w.heap.size) #[.int .i64 a.i, .int .i64 a.q, .int .i64 a.u, .int .i64 a.v] 36) := bs
          have B_r : Hid (Blk wr (w.heap.size + 1) #[.int .i64 0, .int .i64 0, .int .i64 0, .int .i64 0, .int .i64 0] 38) := br
          have HO : Hid (Below w.heap.size w wr) := ho
          have HS : Hid (Seg wr mb 105 0 4 (fun i => .int .i64 (if i < k then prn F a i else if i = k then psn F a k q else 0))) := sg
          clear bs br sg
          have hgl : ∀ x : Kept wr.heap.size wr, Below w.heap.size w x.w := fun x => ho.trans (x.h.mono ho.size)
          have gf : ∀ x : Kept wr.heap.size wr, x.w.cell? ⟨rb k, ro k + q, none⟩ = some (.int .i64 (F k q)) := fun x => later.out _ _ (GQ.out q hqn) (hgl x)
          have gm : ∀ x : Kept wr.heap.size wr, x.w.cell? ⟨mb, k, none⟩ = some (.int .i64 (psn F a k q)) := fun x => x.cell HS.out.lt (by have h := HS.out.cell hkn; rw [Nat.zero_add] at h; rw [h]; simp)
          clear hgl ho
          have hix := idx4 (snum a) hqn
          have e0 : snum a 0 = a.i := rfl
          have e1 : snum a 1 = a.q := rfl
          have e2 : snum a 2 = a.u := rfl
          have e3 : snum a 3 = a.v := rfl
          rw [e0, e1, e2, e3] at hix
          clear e0 e1 e2 e3
          obtain ⟨nq, hnq⟩ : ∃ x, x = snum a q := ⟨_, rfl⟩
          rw [← hnq] at hix
          obtain ⟨fq, hfq⟩ : ∃ x, x = F k q := ⟨_, rfl⟩
          rw [← hfq] at gf
          obtain ⟨pq, hpq⟩ : ∃ x, x = psn F a k q := ⟨_, rfl⟩
          rw [← hpq] at gm
          have HN : Hid (wrap64 (pq + wrap64 (fq * nq)) = psn F a k (q + 1)) := by show _ = _; rw [hpq, hfq, hnq]; rfl
          clear hnq hfq hpq
          go_upto_region 14 with fail
          clear hix
          refine wp_region_last' wr.heap.size (by kernel_rfl) rfl rfl (by kernel_rfl) (lastOk_of (by kernel_rfl)) ?_
          intro hne
          dsimp only [List.dropLast]
          repeat (go_big_quiet_step (fail))
          refine wpQuiet_nil ?_
          rintro u6 ⟨xk, hxk⟩
          have hR1 := xk.h
          rw [← hxk] at hR1
          clear hxk xk hne gf gm
          replace B_s : Hid (Blk u6 (w.heap.size) #[.int .i64 a.i, .int .i64 a.q, .int .i64 a.u, .int .i64 a.v] 36) := by show Blk u6 (w.heap.size) _ _; exact Blk.old B_s.out hR1
          replace B_r : Hid (Blk u6 (w.heap.size + 1) #[.int .i64 0, .int .i64 0, .int .i64 0, .int .i64 0, .int .i64 0] 38) := by show Blk u6 (w.heap.size + 1) _ _; exact Blk.old B_r.out hR1
          replace HO : Hid (Below w.heap.size w u6) := HO.out.trans (hR1.mono HO.out.size)
          replace HS : Hid (Seg u6 mb 105 0 4 (fun i => .int .i64 (if i < k then prn F a i else if i = k then psn F a k q else 0))) := HS.out.of_block (hR1.block _ HS.out.lt)
          clear hR1
          have mc : u6.cell? ⟨mb, k, none⟩ = some (.int .i64 (psn F a k q)) := by have h := HS.out.cell hkn; rw [Nat.zero_add] at h; rw [h]; simp
          have mfz := HS.out.frozen
          have mlt := HS.out.lt
          go_wp2
          go_roundw
          case rel =>
            refine ⟨q + 1, by omega, by simp, Blk.setOther B_s.out hmr.out.1 _, Blk.setOther B_r.out hmr.out.2.1 _, ?_, Below.setCell HO.out hmr.out.2.2 _⟩
            have h := HS.out.set k hkn (.int .i64 (wrap64 (pq + wrap64 (fq * nq))))
            rw [Nat.zero_add, HN.out] at h
            rw [HN.out]
            refine h.congr fun i hi => ?_
            by_cases e : i = k
            · subst e; simp
            · by_cases e2 : i < k <;> simp [e, e2]
          case measure => simp [intOf]; omega
        · obtain rfl : q = 4 := by omega
          have S2 : Seg wr mb 105 0 4 (fun i => .int .i64 (if i < (k + 1) then prn F a i else 0)) := by
            refine sg.congr fun i _ => ?_
            by_cases e : i = k
            · subst e; simp [prn]
            · by_cases e2 : i < k
              · simp [e2, Nat.lt_succ_of_lt e2]
              · have h3 : ¬ i < k + 1 := by omega
                simp [e, e2, h3]
          clear sg
          go_wp2
          go_roundw
          case rel => exact ⟨k + 1, by omega, by simp, bs, br, S2, ho⟩
          case measure => simp [intOf]; omega
    · obtain rfl : k = 4 := by omega
      have B_s : Hid (Blk wr (w.heap.size) #[.int .i64 a.i, .int .i64 a.q, .int .i64 a.u, .int .i64 a.v] 36) := bs
      have B_r : Hid (Blk wr (w.heap.size + 1) #[.int .i64 0, .int .i64 0, .int .i64 0, .int .i64 0, .int .i64 0] 38) := br
      have HO : Hid (Below w.heap.size w wr) := ho
      have HS : Hid (Seg wr mb 105 0 4 (fun i => .int .i64 (prn F a i))) := sg.congr (lt4 rfl rfl rfl rfl)
      clear bs br sg ho
      have mc0 := HS.out.cell (i := 0) (by omega)
      simp only [Nat.zero_add, Nat.reduceAdd] at mc0
      have mc1 := HS.out.cell (i := 1) (by omega)
      simp only [Nat.zero_add, Nat.reduceAdd] at mc1
      have mc2 := HS.out.cell (i := 2) (by omega)
      simp only [Nat.zero_add, Nat.reduceAdd] at mc2
      have mc3 := HS.out.cell (i := 3) (by omega)
      simp only [Nat.zero_add, Nat.reduceAdd] at mc3
      go_wp2_with fail
      refine (ihalf4 (prn F a) (fun k _ => prn_in F a k) _).mono ?_
      rintro e v5 ⟨rfl, hb⟩
      replace B_s : Hid (Blk v5 (w.heap.size) #[.int .i64 a.i, .int .i64 a.q, .int .i64 a.u, .int .i64 a.v] 36) := by show Blk v5 (w.heap.size) _ _; exact Blk.old B_s.out hb
      replace B_r : Hid (Blk v5 (w.heap.size + 1) #[.int .i64 0, .int .i64 0, .int .i64 0, .int .i64 0, .int .i64 0] 38) := by show Blk v5 (w.heap.size + 1) _ _; exact Blk.old B_r.out hb
      replace HO : Hid (Below w.heap.size w v5) := box_step HO.out hb (Nat.le_refl _)
      clear hb
      clear mc0 mc1 mc2 mc3
      have r_0 := B_r.out.cell (j := 0) rfl
      have r_1 := B_r.out.cell (j := 1) rfl
      have r_2 := B_r.out.cell (j := 2) rfl
      have r_3 := B_r.out.cell (j := 3) rfl
      have r_4 := B_r.out.cell (j := 4) rfl
      have r_f := B_r.out.frozen
      have r_z := B_r.out.lt
      go_wp2
      refine bodyPost_ret (v := .agg #[.int .i64 (hcode (prn F a)), .int .i64 ((hsk (prn F a)).i), .int .i64 ((hsk (prn F a)).q), .int .i64 ((hsk (prn F a)).u), .int .i64 ((hsk (prn F a)).v)]) (by simp [results, Try.results24, go_sem, r_0, r_1, r_2, r_3, r_4, r_f, r_z] <;> (repeat' (first | rfl | apply And.intro))) rfl ⟨rfl, ?_⟩
      exact (Below.setCell (Below.setCell (Below.setCell (Below.setCell (Below.setCell HO.out low_r.out _) low_r.out _) low_r.out _) low_r.out _) low_r.out _)
theorem ips {w : World} {v : Value} {n : Nat} {L : Nat → Nat} {F : Rm.Mx} (a : Sk) (h : RdMat w v n L F) : Calls Try.prog 24 #[v, .agg #[.int .i64 a.i, .int .i64 a.q, .int .i64 a.u, .int .i64 a.v]] w fun e w' => e = .returned (.agg #[.int .i64 (pcd n L F a), .int .i64 ((psk n L F a).i), .int .i64 ((psk n L F a).q), .int .i64 ((psk n L F a).u), .int .i64 ((psk n L F a).v)]) ∧ Below w.heap.size w w' := by
  obtain ⟨ao, cap, rfl⟩ := mat_form h
  by_cases hm : mcode n L F = 0
  · by_cases hs : scode a = 0
    · obtain ⟨rfl, hl, _⟩ := mcode_four hm
      obtain ⟨b, off, cp, rb, ro, rc, e, hc⟩ := mat_four h hl
      cases e
      rw [show pcd 4 L F a = hcode (prn F a) by simp [pcd, hm, hs], show psk 4 L F a = hsk (prn F a) by simp [psk, hm, hs]]
      exact ips_3 b off _ rb ro rc L F a w h hm hs hc
    · rw [show pcd n L F a = scode a by simp [pcd, hm, hs], show psk n L F a = ⟨0, 0, 0, 0⟩ by simp [psk, hm, hs]]
      exact ips_2 ao n cap L F a w h hm hs
  · rw [show pcd n L F a = mcode n L F by simp [pcd, hm], show psk n L F a = ⟨0, 0, 0, 0⟩ by simp [psk, hm]]
    exact ips_1 ao n cap L F a w h hm
end Go.Proofs.Ytloebnlmeplgbaa
