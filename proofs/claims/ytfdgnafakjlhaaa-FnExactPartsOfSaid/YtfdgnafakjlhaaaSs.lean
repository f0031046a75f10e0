/- PartsOf, as the specification reckons it. -/
import Derived.Test.YtfdgnafakjlhaaaPv
import Derived.Handy
import Derived.Deep.RegionHeld3
import Derived.Deep.DeepCutAuto
namespace Go.Proofs.Ytfdgnafakjlhaaa
open Go.RowKit
set_option linter.unusedVariables false
set_option linter.unusedSimpArgs false
set_option maxRecDepth 20000 in
set_option maxHeartbeats 40000000 in
theorem spartsOf (b off n cap : Nat) (G : Nat → Ps) (w : World) (hn : n ≤ 1000000000) (hc : ∀ i, i < n → ∀ j, j < 11 → w.cell? ⟨b, off + i * 11 + j, none⟩ = some (pcell (G i) j)) :
    Calls Try.prog 13 #[.slice (some ⟨b, off, none⟩) n cap] w fun e w' => ∃ v, e = .returned (.agg #[.int .i64 (pcode G n), v]) ∧ PAns G n w v w' ∧ Below w.heap.size w w' := by
  by_cases hbig : 40 < n
  · have hpc : pcode G n = 2 := if_pos hbig
    go_enter Try.func13, Try.ntmps13
    go_wp2
    refine bodyPost_ret (v := .agg #[.int .i64 2, .slice none 0 0]) (by simp [results, Try.results13, go_sem] <;> (repeat' (first | rfl | apply And.intro))) rfl ⟨_, by rw [hpc], Or.inl ⟨by rw [hpc]; decide, rfl⟩, ?_⟩
    go_grown
  have h40 : n ≤ 40 := by omega
  have HCC : Hid (∀ (W : World), Below w.heap.size w W → ∀ i, i < n → ∀ j, j < 11 → W.cell? ⟨b, off + i * 11 + j, none⟩ = some (pcell (G i) j)) := fun W hb i hi j hj => (hb.cell (World.block_lt_of_cell? _ _ (hc i hi j hj))).trans (hc i hi j hj)
  have hpc : pcode G n = pcF G n 0 := if_neg hbig
  clear hc
  go_enter Try.func13, Try.ntmps13
  go_wp2_with fail
  refine (sint 1 _).mono ?_
  rintro e w1 ⟨rfl, hb⟩
  have HZ : Hid (PSt w G n w.heap.size w1.heap.size (w1.alloc (.cells #[.int .i64 1, .int .i64 1] 36)) (.slice (some ⟨w.heap.size + 1, 0, none⟩) 0 0) 0) := by
    have hr : Blk (w.alloc (.cells #[.int .i64 0, .slice none 0 0] 48)) w.heap.size #[.int .i64 0, .slice none 0 0] 48 := Blk.new rfl
    have ho := owns_low (owns_empty (w.alloc (.cells #[.int .i64 0, .slice none 0 0] 48)) 99 3) (base' := w.heap.size) (by simp)
    have hbel : Below w.heap.size w w1 := Below.trans (by go_grown) (hb.mono (by simp <;> omega))
    refine ⟨?_, by simp, ((hr.alloc _).old hb).alloc _, Blk.new rfl, hbel.alloc hbel.size _, Nat.le_refl _, hbel.size, fun j hj => absurd hj (by omega), by rw [hpc]; rfl⟩
    have h2 := (owns_later ho hb).alloc (.cells #[.int .i64 1, .int .i64 1] 36)
    rw [flat_zero]
    simpa using h2
  have hs := hb.size
  clear hb
  go_wp2_with fail
  generalize w1.alloc (.cells #[.int .i64 1, .int .i64 1] 36) = W1 at HZ ⊢
  generalize w1.heap.size = q at HZ hs ⊢
  go_loopw [3, 5] (fun v i wr => ∃ k : Nat, k ≤ n ∧ i = .int .i64 k ∧ Hid (PSt w G n w.heap.size q wr v k)) (fun _ i _ => n - (intOf i).toNat)
  case atStart => exact ⟨0, Nat.zero_le _, rfl, HZ⟩
  case round =>
    obtain ⟨k, hk, rfl, HP⟩ := hrel
    clear HZ
    by_cases hkn : k < n
    · have hkI : (k : Int) < n := by omega
      have HPq : Hid (q < wr.heap.size) := HP.out.bef.lt
      have HL : Hid (Below w.heap.size w wr ∧ w.heap.size ≤ q) := ⟨HP.out.below, HP.out.lowq⟩
      have B_R : Hid (Blk wr (w.heap.size) #[.int .i64 0, .slice none 0 0] 48) := HP.out.res
      have B_q : Hid (Blk wr (q) #[.int .i64 (pb G k).n, .int .i64 (pb G k).d] 36) := HP.out.bef
      have HO : Hid (Below wr.heap.size wr wr) := Below.refl _ _
      have g0 : wr.cell? ⟨b, off + k * 11, none⟩ = some (.int .i64 (G k).c.n) := HCC.out wr HP.out.below k hkn 0 (by omega)
      have g1 : wr.cell? ⟨b, off + k * 11 + 1, none⟩ = some (.int .i64 (G k).c.d) := HCC.out wr HP.out.below k hkn 1 (by omega)
      have g2 : wr.cell? ⟨b, off + k * 11 + 2, none⟩ = some (.int .i64 (G k).g.n) := HCC.out wr HP.out.below k hkn 2 (by omega)
      have g3 : wr.cell? ⟨b, off + k * 11 + 3, none⟩ = some (.int .i64 (G k).g.d) := HCC.out wr HP.out.below k hkn 3 (by omega)
      have g4 : wr.cell? ⟨b, off + k * 11 + 4, none⟩ = some (.int .i64 (G k).x.n) := HCC.out wr HP.out.below k hkn 4 (by omega)
      have g5 : wr.cell? ⟨b, off + k * 11 + 5, none⟩ = some (.int .i64 (G k).x.d) := HCC.out wr HP.out.below k hkn 5 (by omega)
      have g6 : wr.cell? ⟨b, off + k * 11 + 6, none⟩ = some (.int .i64 (G k).s.n) := HCC.out wr HP.out.below k hkn 6 (by omega)
      have g7 : wr.cell? ⟨b, off + k * 11 + 7, none⟩ = some (.int .i64 (G k).s.d) := HCC.out wr HP.out.below k hkn 7 (by omega)
      have g8 : wr.cell? ⟨b, off + k * 11 + 8, none⟩ = some (.int .i64 (G k).k.n) := HCC.out wr HP.out.below k hkn 8 (by omega)
      have g9 : wr.cell? ⟨b, off + k * 11 + 9, none⟩ = some (.int .i64 (G k).k.d) := HCC.out wr HP.out.below k hkn 9 (by omega)
      have g10 : wr.cell? ⟨b, off + k * 11 + 10, none⟩ = some (.bool (G k).t) := HCC.out wr HP.out.below k hkn 10 (by omega)
      cases h1 : (G k).c.ok
      · go_wp2_with fail
        refine (sfault_f h1 _).mono ?_
        rintro e v1 ⟨cf, hcf, rfl, hb⟩
        replace B_R : Hid (Blk v1 (w.heap.size) #[.int .i64 0, .slice none 0 0] 48) := Blk.old (Blk.alloc (B_R.out) _) hb
        replace B_q : Hid (Blk v1 (q) #[.int .i64 (pb G k).n, .int .i64 (pb G k).d] 36) := Blk.old (Blk.alloc (B_q.out) _) hb
        have B_u : Hid (Blk v1 (wr.heap.size) #[.int .i64 (G k).c.n, .int .i64 (G k).c.d, .int .i64 (G k).g.n, .int .i64 (G k).g.d, .int .i64 (G k).x.n, .int .i64 (G k).x.d, .int .i64 (G k).s.n, .int .i64 (G k).s.d, .int .i64 (G k).k.n, .int .i64 (G k).k.d, .bool (G k).t] 45) := Blk.old (Blk.new (by simp)) hb
        replace HO : Hid (Below wr.heap.size wr v1) := by have h := HO.out; have h0 := h.size; refine box_step ?_ hb (by go_size); go_grown
        clear hb
        clear g0 g1 g2 g3 g4 g5 g6 g7 g8 g9 g10
        have HC : Hid (pcode G n = 1) := HP.out.no hkn (by unfold fine; simp [h1])
        have R_0 := B_R.out.cell (j := 0) rfl
        have R_1 := B_R.out.cell (j := 1) rfl
        have R_f := B_R.out.frozen
        have R_z := B_R.out.lt
        clear B_R B_q B_u
        clear HP HCC 
        go_wp2
        refine bodyPost_ret (v := .agg #[.int .i64 1, .slice none 0 0]) (by simp [results, Try.results13, go_sem, R_0, R_1] <;> (repeat' (first | rfl | apply And.intro))) rfl ⟨_, by rw [HC.out], Or.inl ⟨by rw [HC.out]; decide, rfl⟩, ?_⟩
        have h := HL.out.1.trans (HO.out.mono HL.out.1.size)
        have hl := HL.out.2
        go_grown
      · go_wp2_with fail
        refine (sfault_t h1 _).mono ?_
        rintro e v1 ⟨rfl, hb⟩
        replace B_R : Hid (Blk v1 (w.heap.size) #[.int .i64 0, .slice none 0 0] 48) := Blk.old (Blk.alloc (B_R.out) _) hb
        replace B_q : Hid (Blk v1 (q) #[.int .i64 (pb G k).n, .int .i64 (pb G k).d] 36) := Blk.old (Blk.alloc (B_q.out) _) hb
        have B_u : Hid (Blk v1 (wr.heap.size) #[.int .i64 (G k).c.n, .int .i64 (G k).c.d, .int .i64 (G k).g.n, .int .i64 (G k).g.d, .int .i64 (G k).x.n, .int .i64 (G k).x.d, .int .i64 (G k).s.n, .int .i64 (G k).s.d, .int .i64 (G k).k.n, .int .i64 (G k).k.d, .bool (G k).t] 45) := Blk.old (Blk.new (by simp)) hb
        replace HO : Hid (Below wr.heap.size wr v1) := by have h := HO.out; have h0 := h.size; refine box_step ?_ hb (by go_size); go_grown
        clear hb
        clear g0 g1 g2 g3 g4 g5 g6 g7 g8 g9 g10
        cases h2 : (G k).g.ok
        · have u_0 := B_u.out.cell (j := 0) rfl
          have u_1 := B_u.out.cell (j := 1) rfl
          have u_2 := B_u.out.cell (j := 2) rfl
          have u_3 := B_u.out.cell (j := 3) rfl
          have u_4 := B_u.out.cell (j := 4) rfl
          have u_5 := B_u.out.cell (j := 5) rfl
          have u_6 := B_u.out.cell (j := 6) rfl
          have u_7 := B_u.out.cell (j := 7) rfl
          have u_8 := B_u.out.cell (j := 8) rfl
          have u_9 := B_u.out.cell (j := 9) rfl
          have u_10 := B_u.out.cell (j := 10) rfl
          have u_f := B_u.out.frozen
          have u_z := B_u.out.lt
          go_wp2_with fail
          refine (sfault_f h2 _).mono ?_
          rintro e v2 ⟨cf, hcf, rfl, hb⟩
          clear u_0 u_1 u_2 u_3 u_4 u_5 u_6 u_7 u_8 u_9 u_10 u_f u_z
          replace B_R : Hid (Blk v2 (w.heap.size) #[.int .i64 0, .slice none 0 0] 48) := Blk.old (B_R.out) hb
          replace B_q : Hid (Blk v2 (q) #[.int .i64 (pb G k).n, .int .i64 (pb G k).d] 36) := Blk.old (B_q.out) hb
          replace B_u : Hid (Blk v2 (wr.heap.size) #[.int .i64 (G k).c.n, .int .i64 (G k).c.d, .int .i64 (G k).g.n, .int .i64 (G k).g.d, .int .i64 (G k).x.n, .int .i64 (G k).x.d, .int .i64 (G k).s.n, .int .i64 (G k).s.d, .int .i64 (G k).k.n, .int .i64 (G k).k.d, .bool (G k).t] 45) := Blk.old (B_u.out) hb
          replace HO : Hid (Below wr.heap.size wr v2) := by have h := HO.out; have h0 := h.size; refine box_step ?_ hb (by go_size); go_grown
          clear hb
          have HC : Hid (pcode G n = 1) := HP.out.no hkn (by unfold fine; simp [h1, h2])
          have R_0 := B_R.out.cell (j := 0) rfl
          have R_1 := B_R.out.cell (j := 1) rfl
          have R_f := B_R.out.frozen
          have R_z := B_R.out.lt
          clear B_R B_q B_u
          clear HP HCC 
          go_wp2
          refine bodyPost_ret (v := .agg #[.int .i64 1, .slice none 0 0]) (by simp [results, Try.results13, go_sem, R_0, R_1] <;> (repeat' (first | rfl | apply And.intro))) rfl ⟨_, by rw [HC.out], Or.inl ⟨by rw [HC.out]; decide, rfl⟩, ?_⟩
          have h := HL.out.1.trans (HO.out.mono HL.out.1.size)
          have hl := HL.out.2
          go_grown
        · have u_0 := B_u.out.cell (j := 0) rfl
          have u_1 := B_u.out.cell (j := 1) rfl
          have u_2 := B_u.out.cell (j := 2) rfl
          have u_3 := B_u.out.cell (j := 3) rfl
          have u_4 := B_u.out.cell (j := 4) rfl
          have u_5 := B_u.out.cell (j := 5) rfl
          have u_6 := B_u.out.cell (j := 6) rfl
          have u_7 := B_u.out.cell (j := 7) rfl
          have u_8 := B_u.out.cell (j := 8) rfl
          have u_9 := B_u.out.cell (j := 9) rfl
          have u_10 := B_u.out.cell (j := 10) rfl
          have u_f := B_u.out.frozen
          have u_z := B_u.out.lt
          go_wp2_with fail
          refine (sfault_t h2 _).mono ?_
          rintro e v2 ⟨rfl, hb⟩
          clear u_0 u_1 u_2 u_3 u_4 u_5 u_6 u_7 u_8 u_9 u_10 u_f u_z
          replace B_R : Hid (Blk v2 (w.heap.size) #[.int .i64 0, .slice none 0 0] 48) := Blk.old (B_R.out) hb
          replace B_q : Hid (Blk v2 (q) #[.int .i64 (pb G k).n, .int .i64 (pb G k).d] 36) := Blk.old (B_q.out) hb
          replace B_u : Hid (Blk v2 (wr.heap.size) #[.int .i64 (G k).c.n, .int .i64 (G k).c.d, .int .i64 (G k).g.n, .int .i64 (G k).g.d, .int .i64 (G k).x.n, .int .i64 (G k).x.d, .int .i64 (G k).s.n, .int .i64 (G k).s.d, .int .i64 (G k).k.n, .int .i64 (G k).k.d, .bool (G k).t] 45) := Blk.old (B_u.out) hb
          replace HO : Hid (Below wr.heap.size wr v2) := by have h := HO.out; have h0 := h.size; refine box_step ?_ hb (by go_size); go_grown
          clear hb
          cases h3 : (G k).x.ok
          · have u_0 := B_u.out.cell (j := 0) rfl
            have u_1 := B_u.out.cell (j := 1) rfl
            have u_2 := B_u.out.cell (j := 2) rfl
            have u_3 := B_u.out.cell (j := 3) rfl
            have u_4 := B_u.out.cell (j := 4) rfl
            have u_5 := B_u.out.cell (j := 5) rfl
            have u_6 := B_u.out.cell (j := 6) rfl
            have u_7 := B_u.out.cell (j := 7) rfl
            have u_8 := B_u.out.cell (j := 8) rfl
            have u_9 := B_u.out.cell (j := 9) rfl
            have u_10 := B_u.out.cell (j := 10) rfl
            have u_f := B_u.out.frozen
            have u_z := B_u.out.lt
            go_wp2_with fail
            refine (sfault_f h3 _).mono ?_
            rintro e v3 ⟨cf, hcf, rfl, hb⟩
            clear u_0 u_1 u_2 u_3 u_4 u_5 u_6 u_7 u_8 u_9 u_10 u_f u_z
            replace B_R : Hid (Blk v3 (w.heap.size) #[.int .i64 0, .slice none 0 0] 48) := Blk.old (B_R.out) hb
            replace B_q : Hid (Blk v3 (q) #[.int .i64 (pb G k).n, .int .i64 (pb G k).d] 36) := Blk.old (B_q.out) hb
            replace B_u : Hid (Blk v3 (wr.heap.size) #[.int .i64 (G k).c.n, .int .i64 (G k).c.d, .int .i64 (G k).g.n, .int .i64 (G k).g.d, .int .i64 (G k).x.n, .int .i64 (G k).x.d, .int .i64 (G k).s.n, .int .i64 (G k).s.d, .int .i64 (G k).k.n, .int .i64 (G k).k.d, .bool (G k).t] 45) := Blk.old (B_u.out) hb
            replace HO : Hid (Below wr.heap.size wr v3) := by have h := HO.out; have h0 := h.size; refine box_step ?_ hb (by go_size); go_grown
            clear hb
            have HC : Hid (pcode G n = 1) := HP.out.no hkn (by unfold fine; simp [h1, h2, h3])
            have R_0 := B_R.out.cell (j := 0) rfl
            have R_1 := B_R.out.cell (j := 1) rfl
            have R_f := B_R.out.frozen
            have R_z := B_R.out.lt
            clear B_R B_q B_u
            clear HP HCC 
            go_wp2
            refine bodyPost_ret (v := .agg #[.int .i64 1, .slice none 0 0]) (by simp [results, Try.results13, go_sem, R_0, R_1] <;> (repeat' (first | rfl | apply And.intro))) rfl ⟨_, by rw [HC.out], Or.inl ⟨by rw [HC.out]; decide, rfl⟩, ?_⟩
            have h := HL.out.1.trans (HO.out.mono HL.out.1.size)
            have hl := HL.out.2
            go_grown
          · have u_0 := B_u.out.cell (j := 0) rfl
            have u_1 := B_u.out.cell (j := 1) rfl
            have u_2 := B_u.out.cell (j := 2) rfl
            have u_3 := B_u.out.cell (j := 3) rfl
            have u_4 := B_u.out.cell (j := 4) rfl
            have u_5 := B_u.out.cell (j := 5) rfl
            have u_6 := B_u.out.cell (j := 6) rfl
            have u_7 := B_u.out.cell (j := 7) rfl
            have u_8 := B_u.out.cell (j := 8) rfl
            have u_9 := B_u.out.cell (j := 9) rfl
            have u_10 := B_u.out.cell (j := 10) rfl
            have u_f := B_u.out.frozen
            have u_z := B_u.out.lt
            go_wp2_with fail
            refine (sfault_t h3 _).mono ?_
            rintro e v3 ⟨rfl, hb⟩
            clear u_0 u_1 u_2 u_3 u_4 u_5 u_6 u_7 u_8 u_9 u_10 u_f u_z
            replace B_R : Hid (Blk v3 (w.heap.size) #[.int .i64 0, .slice none 0 0] 48) := Blk.old (B_R.out) hb
            replace B_q : Hid (Blk v3 (q) #[.int .i64 (pb G k).n, .int .i64 (pb G k).d] 36) := Blk.old (B_q.out) hb
            replace B_u : Hid (Blk v3 (wr.heap.size) #[.int .i64 (G k).c.n, .int .i64 (G k).c.d, .int .i64 (G k).g.n, .int .i64 (G k).g.d, .int .i64 (G k).x.n, .int .i64 (G k).x.d, .int .i64 (G k).s.n, .int .i64 (G k).s.d, .int .i64 (G k).k.n, .int .i64 (G k).k.d, .bool (G k).t] 45) := Blk.old (B_u.out) hb
            replace HO : Hid (Below wr.heap.size wr v3) := by have h := HO.out; have h0 := h.size; refine box_step ?_ hb (by go_size); go_grown
            clear hb
            by_cases h4 : (G k).x.n < 1
            · have h4b : decide ((G k).x.n < 1) = true := by simp; omega
              have HC : Hid (pcode G n = 1) := HP.out.no hkn (by unfold fine; simp [h1, h2, h3]; omega)
              have R_0 := B_R.out.cell (j := 0) rfl
              have R_1 := B_R.out.cell (j := 1) rfl
              have R_f := B_R.out.frozen
              have R_z := B_R.out.lt
              have u_0 := B_u.out.cell (j := 0) rfl
              have u_1 := B_u.out.cell (j := 1) rfl
              have u_2 := B_u.out.cell (j := 2) rfl
              have u_3 := B_u.out.cell (j := 3) rfl
              have u_4 := B_u.out.cell (j := 4) rfl
              have u_5 := B_u.out.cell (j := 5) rfl
              have u_6 := B_u.out.cell (j := 6) rfl
              have u_7 := B_u.out.cell (j := 7) rfl
              have u_8 := B_u.out.cell (j := 8) rfl
              have u_9 := B_u.out.cell (j := 9) rfl
              have u_10 := B_u.out.cell (j := 10) rfl
              have u_f := B_u.out.frozen
              have u_z := B_u.out.lt
              clear B_R B_q B_u
              clear HP HCC 
              go_wp2
              refine bodyPost_ret (v := .agg #[.int .i64 1, .slice none 0 0]) (by simp [results, Try.results13, go_sem, R_0, R_1] <;> (repeat' (first | rfl | apply And.intro))) rfl ⟨_, by rw [HC.out], Or.inl ⟨by rw [HC.out]; decide, rfl⟩, ?_⟩
              have h := HL.out.1.trans (HO.out.mono HL.out.1.size)
              have hl := HL.out.2
              go_grown
            · have h4b : decide ((G k).x.n < 1) = false := by simp; omega
              have hfin : Hid (fine (G k) = true) := by show fine (G k) = true; unfold fine; simp [h1, h2, h3]; omega
              have hpo : (pb G k).ok = true := pb_ok HP.out.fn
              have u_0 := B_u.out.cell (j := 0) rfl
              have u_1 := B_u.out.cell (j := 1) rfl
              have u_2 := B_u.out.cell (j := 2) rfl
              have u_3 := B_u.out.cell (j := 3) rfl
              have u_4 := B_u.out.cell (j := 4) rfl
              have u_5 := B_u.out.cell (j := 5) rfl
              have u_6 := B_u.out.cell (j := 6) rfl
              have u_7 := B_u.out.cell (j := 7) rfl
              have u_8 := B_u.out.cell (j := 8) rfl
              have u_9 := B_u.out.cell (j := 9) rfl
              have u_10 := B_u.out.cell (j := 10) rfl
              have u_f := B_u.out.frozen
              have u_z := B_u.out.lt
              go_upto_region 11 with fail
              clear u_0 u_1 u_2 u_3 u_4 u_5 u_6 u_7 u_8 u_9 u_10 u_f u_z
              have k_u_0 : ∀ W, Below v3.heap.size v3 W → W.cell? ⟨wr.heap.size, 0, none⟩ = some (.int .i64 (G k).c.n) := fun _ h => kold h (B_u.out.cell (j := 0) rfl)
              have k_u_1 : ∀ W, Below v3.heap.size v3 W → W.cell? ⟨wr.heap.size, 1, none⟩ = some (.int .i64 (G k).c.d) := fun _ h => kold h (B_u.out.cell (j := 1) rfl)
              have k_u_2 : ∀ W, Below v3.heap.size v3 W → W.cell? ⟨wr.heap.size, 2, none⟩ = some (.int .i64 (G k).g.n) := fun _ h => kold h (B_u.out.cell (j := 2) rfl)
              have k_u_3 : ∀ W, Below v3.heap.size v3 W → W.cell? ⟨wr.heap.size, 3, none⟩ = some (.int .i64 (G k).g.d) := fun _ h => kold h (B_u.out.cell (j := 3) rfl)
              have k_u_4 : ∀ W, Below v3.heap.size v3 W → W.cell? ⟨wr.heap.size, 4, none⟩ = some (.int .i64 (G k).x.n) := fun _ h => kold h (B_u.out.cell (j := 4) rfl)
              have k_u_5 : ∀ W, Below v3.heap.size v3 W → W.cell? ⟨wr.heap.size, 5, none⟩ = some (.int .i64 (G k).x.d) := fun _ h => kold h (B_u.out.cell (j := 5) rfl)
              have k_u_6 : ∀ W, Below v3.heap.size v3 W → W.cell? ⟨wr.heap.size, 6, none⟩ = some (.int .i64 (G k).s.n) := fun _ h => kold h (B_u.out.cell (j := 6) rfl)
              have k_u_7 : ∀ W, Below v3.heap.size v3 W → W.cell? ⟨wr.heap.size, 7, none⟩ = some (.int .i64 (G k).s.d) := fun _ h => kold h (B_u.out.cell (j := 7) rfl)
              have k_u_8 : ∀ W, Below v3.heap.size v3 W → W.cell? ⟨wr.heap.size, 8, none⟩ = some (.int .i64 (G k).k.n) := fun _ h => kold h (B_u.out.cell (j := 8) rfl)
              have k_u_9 : ∀ W, Below v3.heap.size v3 W → W.cell? ⟨wr.heap.size, 9, none⟩ = some (.int .i64 (G k).k.d) := fun _ h => kold h (B_u.out.cell (j := 9) rfl)
              have k_u_10 : ∀ W, Below v3.heap.size v3 W → W.cell? ⟨wr.heap.size, 10, none⟩ = some (.bool (G k).t) := fun _ h => kold h (B_u.out.cell (j := 10) rfl)
              have k_q_0 : ∀ W, Below v3.heap.size v3 W → W.cell? ⟨q, 0, none⟩ = some (.int .i64 (pb G k).n) := fun _ h => kold h (B_q.out.cell (j := 0) rfl)
              have k_q_1 : ∀ W, Below v3.heap.size v3 W → W.cell? ⟨q, 1, none⟩ = some (.int .i64 (pb G k).d) := fun _ h => kold h (B_q.out.cell (j := 1) rfl)
              have hR0 : Below v3.heap.size v3 v3 := Below.refl _ _
              go_wp2_with fail
              go_cut [7] (fun p wx => ∃ kx : Nat, p = .pointer (some ⟨kx, 0, none⟩) ∧ v3.heap.size ≤ kx ∧ kx < wx.heap.size ∧ Below v3.heap.size v3 wx ∧ wx.cell? ⟨kx, 0, none⟩ = some (.bool (subK (G k).x (pb G k))) ∧ wx.cell? ⟨kx, 1, none⟩ = some (.int .i64 (subQ (G k).x (pb G k)).n) ∧ wx.cell? ⟨kx, 2, none⟩ = some (.int .i64 (subQ (G k).x (pb G k)).d))
              case first =>
                go_region_held3 (fun W => Below v3.heap.size v3 W) (go_grown) (first | (go_at_call 40; refine (sof_t h3 _).mono ?_; rintro e wz ⟨rfl, hb1⟩; have hs1 := hb1.size; (try simp at hs1); have hR1 : Below v3.heap.size v3 wz := (by refine box_step ?_ hb1 (by go_size); go_grown); (first | (have hZ := box_step hZ hb1 (Nat.le_refl _)) | (have hZ := hb1)); obtain ⟨ho1, hf1, hz1⟩ := olds' hZ) | (go_at_call 40; refine (sof_t hpo _).mono ?_; rintro e wz ⟨rfl, hb1⟩; have hs1 := hb1.size; (try simp at hs1); have hR1 : Below v3.heap.size v3 wz := (by refine box_step ?_ hb1 (by go_size); go_grown); (first | (have hZ := box_step hZ hb1 (Nat.le_refl _)) | (have hZ := hb1)); obtain ⟨ho1, hf1, hz1⟩ := olds' hZ) | (go_at_call 50; refine (sless_t h3 hpo _).mono ?_; rintro e wz ⟨rfl, hb1⟩; have hs1 := hb1.size; (try simp at hs1); have hR1 : Below v3.heap.size v3 wz := (by refine box_step ?_ hb1 (by go_size); go_grown); (first | (have hZ := box_step hZ hb1 (Nat.le_refl _)) | (have hZ := hb1)); obtain ⟨ho1, hf1, hz1⟩ := olds' hZ))
                all_goals
                  go_wp2_with fail
                  go_meet
                  case rel =>
                    refine ⟨_, rfl, ?_, ?_, ?_, ?_, ?_, ?_⟩
                    · omega
                    · simp [World.setCell] <;> omega
                    · go_grown
                    · go_simp <;> rfl
                    · go_simp <;> rfl
                    · go_simp <;> rfl
              case rest =>
                obtain ⟨q4, rfl, hk1, hk2, hB, d0, d1, d2⟩ := hcut
                clear k_u_0 k_u_1 k_u_2 k_u_3 k_u_4 k_u_5 k_u_6 k_u_7 k_u_8 k_u_9 k_u_10 k_q_0 k_q_1 hR0
                obtain ⟨v4, hv⟩ : ∃ v, v = wc := ⟨_, rfl⟩
                subst hv
                replace HO : Hid (Below wr.heap.size wr v4) := HO.out.trans (hB.mono HO.out.size)
                have ne_R_st : Hid (w.heap.size ≠ q4) := Nat.ne_of_lt (Nat.lt_of_lt_of_le (B_R.out.lt) hk1)
                have ne_q_st : Hid (q ≠ q4) := Nat.ne_of_lt (Nat.lt_of_lt_of_le (B_q.out.lt) hk1)
                have ne_u_st : Hid (wr.heap.size ≠ q4) := Nat.ne_of_lt (Nat.lt_of_lt_of_le (B_u.out.lt) hk1)
                replace B_R : Hid (Blk v4 (w.heap.size) #[.int .i64 0, .slice none 0 0] 48) := Blk.old B_R.out hB
                replace B_q : Hid (Blk v4 (q) #[.int .i64 (pb G k).n, .int .i64 (pb G k).d] 36) := Blk.old B_q.out hB
                replace B_u : Hid (Blk v4 (wr.heap.size) #[.int .i64 (G k).c.n, .int .i64 (G k).c.d, .int .i64 (G k).g.n, .int .i64 (G k).g.d, .int .i64 (G k).x.n, .int .i64 (G k).x.d, .int .i64 (G k).s.n, .int .i64 (G k).s.d, .int .i64 (G k).k.n, .int .i64 (G k).k.d, .bool (G k).t] 45) := Blk.old B_u.out hB
                have C_st_0 : Hid (v4.cell? ⟨q4, 0, none⟩ = some (.bool (subK (G k).x (pb G k)))) := d0
                have C_st_1 : Hid (v4.cell? ⟨q4, 1, none⟩ = some (.int .i64 (subQ (G k).x (pb G k)).n)) := d1
                have C_st_2 : Hid (v4.cell? ⟨q4, 2, none⟩ = some (.int .i64 (subQ (G k).x (pb G k)).d)) := d2
                clear hB hk1 hk2 d0 d1 d2
                go_upto_region 13 with fail
                obtain ⟨v5, hw⟩ : ∃ X, X = v4.alloc (.cells #[.bool false, .int .i64 0, .int .i64 0] 81) := ⟨_, rfl⟩
                rw [← hw]
                have ne_R_pw : Hid (w.heap.size ≠ v4.heap.size) := Nat.ne_of_lt (B_R.out.lt)
                have ne_q_pw : Hid (q ≠ v4.heap.size) := Nat.ne_of_lt (B_q.out.lt)
                have ne_u_pw : Hid (wr.heap.size ≠ v4.heap.size) := Nat.ne_of_lt (B_u.out.lt)
                have ne_st_pw : Hid (q4 ≠ v4.heap.size) := Nat.ne_of_lt (World.block_lt_of_cell? _ _ C_st_0.out)
                replace B_R : Hid (Blk v5 (w.heap.size) #[.int .i64 0, .slice none 0 0] 48) := by rw [hw]; exact Blk.alloc B_R.out _
                replace B_q : Hid (Blk v5 (q) #[.int .i64 (pb G k).n, .int .i64 (pb G k).d] 36) := by rw [hw]; exact Blk.alloc B_q.out _
                replace B_u : Hid (Blk v5 (wr.heap.size) #[.int .i64 (G k).c.n, .int .i64 (G k).c.d, .int .i64 (G k).g.n, .int .i64 (G k).g.d, .int .i64 (G k).x.n, .int .i64 (G k).x.d, .int .i64 (G k).s.n, .int .i64 (G k).s.d, .int .i64 (G k).k.n, .int .i64 (G k).k.d, .bool (G k).t] 45) := by rw [hw]; exact Blk.alloc B_u.out _
                replace C_st_0 : Hid (v5.cell? ⟨q4, 0, none⟩ = some (.bool (subK (G k).x (pb G k)))) := by rw [hw]; exact cell_old C_st_0.out
                replace C_st_1 : Hid (v5.cell? ⟨q4, 1, none⟩ = some (.int .i64 (subQ (G k).x (pb G k)).n)) := by rw [hw]; exact cell_old C_st_1.out
                replace C_st_2 : Hid (v5.cell? ⟨q4, 2, none⟩ = some (.int .i64 (subQ (G k).x (pb G k)).d)) := by rw [hw]; exact cell_old C_st_2.out
                have B_pw : Hid (Blk v5 (v4.heap.size) #[.bool false, .int .i64 0, .int .i64 0] 81) := by rw [hw]; exact Blk.new rfl
                have low_pw : Hid (wr.heap.size ≤ v4.heap.size) := HO.out.size
                replace HO : Hid (Below wr.heap.size wr v5) := by rw [hw]; exact HO.out.alloc HO.out.size _
                clear hw
                cases h5 : subK (G k).x (pb G k)
                · have st_0 := C_st_0.out
                  have st_1 := C_st_1.out
                  have st_2 := C_st_2.out
                  have st_z := World.block_lt_of_cell? _ _ C_st_0.out
                  rw [h5] at st_0
                  go_upto_region 15 with fail
                  clear st_0 st_1 st_2 st_z
                  have k_u_0 : ∀ W, Below v5.heap.size v5 W → W.cell? ⟨wr.heap.size, 0, none⟩ = some (.int .i64 (G k).c.n) := fun _ h => kold h (B_u.out.cell (j := 0) rfl)
                  have k_u_1 : ∀ W, Below v5.heap.size v5 W → W.cell? ⟨wr.heap.size, 1, none⟩ = some (.int .i64 (G k).c.d) := fun _ h => kold h (B_u.out.cell (j := 1) rfl)
                  have k_u_2 : ∀ W, Below v5.heap.size v5 W → W.cell? ⟨wr.heap.size, 2, none⟩ = some (.int .i64 (G k).g.n) := fun _ h => kold h (B_u.out.cell (j := 2) rfl)
                  have k_u_3 : ∀ W, Below v5.heap.size v5 W → W.cell? ⟨wr.heap.size, 3, none⟩ = some (.int .i64 (G k).g.d) := fun _ h => kold h (B_u.out.cell (j := 3) rfl)
                  have k_u_4 : ∀ W, Below v5.heap.size v5 W → W.cell? ⟨wr.heap.size, 4, none⟩ = some (.int .i64 (G k).x.n) := fun _ h => kold h (B_u.out.cell (j := 4) rfl)
                  have k_u_5 : ∀ W, Below v5.heap.size v5 W → W.cell? ⟨wr.heap.size, 5, none⟩ = some (.int .i64 (G k).x.d) := fun _ h => kold h (B_u.out.cell (j := 5) rfl)
                  have k_u_6 : ∀ W, Below v5.heap.size v5 W → W.cell? ⟨wr.heap.size, 6, none⟩ = some (.int .i64 (G k).s.n) := fun _ h => kold h (B_u.out.cell (j := 6) rfl)
                  have k_u_7 : ∀ W, Below v5.heap.size v5 W → W.cell? ⟨wr.heap.size, 7, none⟩ = some (.int .i64 (G k).s.d) := fun _ h => kold h (B_u.out.cell (j := 7) rfl)
                  have k_u_8 : ∀ W, Below v5.heap.size v5 W → W.cell? ⟨wr.heap.size, 8, none⟩ = some (.int .i64 (G k).k.n) := fun _ h => kold h (B_u.out.cell (j := 8) rfl)
                  have k_u_9 : ∀ W, Below v5.heap.size v5 W → W.cell? ⟨wr.heap.size, 9, none⟩ = some (.int .i64 (G k).k.d) := fun _ h => kold h (B_u.out.cell (j := 9) rfl)
                  have k_u_10 : ∀ W, Below v5.heap.size v5 W → W.cell? ⟨wr.heap.size, 10, none⟩ = some (.bool (G k).t) := fun _ h => kold h (B_u.out.cell (j := 10) rfl)
                  have hR0 : Below v5.heap.size v5 v5 := Below.refl _ _
                  go_wp2_with fail
                  go_cut [9] (fun p wx => ∃ kx : Nat, p = .pointer (some ⟨kx, 0, none⟩) ∧ v5.heap.size ≤ kx ∧ kx < wx.heap.size ∧ Below v5.heap.size v5 wx ∧ wx.cell? ⟨kx, 0, none⟩ = some (.bool (gpK (G k))) ∧ wx.cell? ⟨kx, 1, none⟩ = some (.int .i64 (gpQ (G k)).n) ∧ wx.cell? ⟨kx, 2, none⟩ = some (.int .i64 (gpQ (G k)).d))
                  case first =>
                    go_region_held3 (fun W => Below v5.heap.size v5 W) (go_grown) (first | (go_at_call 40; refine (sof_t h2 _).mono ?_; rintro e wz ⟨rfl, hb1⟩; have hs1 := hb1.size; (try simp at hs1); have hR1 : Below v5.heap.size v5 wz := (by refine box_step ?_ hb1 (by go_size); go_grown); (first | (have hZ := box_step hZ hb1 (Nat.le_refl _)) | (have hZ := hb1)); obtain ⟨ho1, hf1, hz1⟩ := olds' hZ) | (go_at_call 44; refine (sdiv7_t _ _ _).mono ?_; rintro e wz ⟨rfl, hb1⟩; have hs1 := hb1.size; (try simp at hs1); have hR1 : Below v5.heap.size v5 wz := (by refine box_step ?_ hb1 (by go_size); go_grown); (first | (have hZ := box_step hZ hb1 (Nat.le_refl _)) | (have hZ := hb1)); obtain ⟨ho1, hf1, hz1⟩ := olds' hZ))
                    all_goals
                      go_wp2_with fail
                      go_meet
                      case rel =>
                        refine ⟨_, rfl, ?_, ?_, ?_, ?_, ?_, ?_⟩
                        · omega
                        · simp [World.setCell] <;> omega
                        · go_grown
                        · go_simp <;> rfl
                        · go_simp <;> rfl
                        · go_simp <;> rfl
                  case rest =>
                    obtain ⟨q6, rfl, hk1, hk2, hB, d0, d1, d2⟩ := hcut
                    clear k_u_0 k_u_1 k_u_2 k_u_3 k_u_4 k_u_5 k_u_6 k_u_7 k_u_8 k_u_9 k_u_10 hR0
                    obtain ⟨v6, hv⟩ : ∃ v, v = wc := ⟨_, rfl⟩
                    subst hv
                    replace HO : Hid (Below wr.heap.size wr v6) := HO.out.trans (hB.mono HO.out.size)
                    have ne_R_gp : Hid (w.heap.size ≠ q6) := Nat.ne_of_lt (Nat.lt_of_lt_of_le (B_R.out.lt) hk1)
                    have ne_q_gp : Hid (q ≠ q6) := Nat.ne_of_lt (Nat.lt_of_lt_of_le (B_q.out.lt) hk1)
                    have ne_u_gp : Hid (wr.heap.size ≠ q6) := Nat.ne_of_lt (Nat.lt_of_lt_of_le (B_u.out.lt) hk1)
                    have ne_st_gp : Hid (q4 ≠ q6) := Nat.ne_of_lt (Nat.lt_of_lt_of_le (World.block_lt_of_cell? _ _ C_st_0.out) hk1)
                    have ne_pw_gp : Hid (v4.heap.size ≠ q6) := Nat.ne_of_lt (Nat.lt_of_lt_of_le (B_pw.out.lt) hk1)
                    replace B_R : Hid (Blk v6 (w.heap.size) #[.int .i64 0, .slice none 0 0] 48) := Blk.old B_R.out hB
                    replace B_q : Hid (Blk v6 (q) #[.int .i64 (pb G k).n, .int .i64 (pb G k).d] 36) := Blk.old B_q.out hB
                    replace B_u : Hid (Blk v6 (wr.heap.size) #[.int .i64 (G k).c.n, .int .i64 (G k).c.d, .int .i64 (G k).g.n, .int .i64 (G k).g.d, .int .i64 (G k).x.n, .int .i64 (G k).x.d, .int .i64 (G k).s.n, .int .i64 (G k).s.d, .int .i64 (G k).k.n, .int .i64 (G k).k.d, .bool (G k).t] 45) := Blk.old B_u.out hB
                    replace C_st_0 : Hid (v6.cell? ⟨q4, 0, none⟩ = some (.bool (subK (G k).x (pb G k)))) := kold hB C_st_0.out
                    replace C_st_1 : Hid (v6.cell? ⟨q4, 1, none⟩ = some (.int .i64 (subQ (G k).x (pb G k)).n)) := kold hB C_st_1.out
                    replace C_st_2 : Hid (v6.cell? ⟨q4, 2, none⟩ = some (.int .i64 (subQ (G k).x (pb G k)).d)) := kold hB C_st_2.out
                    replace B_pw : Hid (Blk v6 (v4.heap.size) #[.bool false, .int .i64 0, .int .i64 0] 81) := Blk.old B_pw.out hB
                    have C_gp_0 : Hid (v6.cell? ⟨q6, 0, none⟩ = some (.bool (gpK (G k)))) := d0
                    have C_gp_1 : Hid (v6.cell? ⟨q6, 1, none⟩ = some (.int .i64 (gpQ (G k)).n)) := d1
                    have C_gp_2 : Hid (v6.cell? ⟨q6, 2, none⟩ = some (.int .i64 (gpQ (G k)).d)) := d2
                    clear hB hk1 hk2 d0 d1 d2
                    have HC : Hid (pcode G n = 3) := HP.out.bad hkn hfin.out (by unfold goodAt pwK; simp [h5])
                    have R_0 := B_R.out.cell (j := 0) rfl
                    have R_1 := B_R.out.cell (j := 1) rfl
                    have R_f := B_R.out.frozen
                    have R_z := B_R.out.lt
                    have pw_0 := B_pw.out.cell (j := 0) rfl
                    have pw_1 := B_pw.out.cell (j := 1) rfl
                    have pw_2 := B_pw.out.cell (j := 2) rfl
                    have pw_f := B_pw.out.frozen
                    have pw_z := B_pw.out.lt
                    clear B_R B_q B_u C_st_0 C_st_1 C_st_2 B_pw C_gp_0 C_gp_1 C_gp_2 ne_R_st ne_q_st ne_u_st ne_R_pw ne_q_pw ne_u_pw ne_st_pw ne_R_gp ne_q_gp ne_u_gp ne_st_gp ne_pw_gp low_pw
                    clear HP HCC h1 h2 h3 h4 h4b h5 hpo hfin HPq
                    repeat go_step
                    refine bodyPost_ret (v := .agg #[.int .i64 3, .slice none 0 0]) (by simp [results, Try.results13, go_sem, R_0, R_1] <;> (repeat' (first | rfl | apply And.intro))) rfl ⟨_, by rw [HC.out], Or.inl ⟨by rw [HC.out]; decide, rfl⟩, ?_⟩
                    have h := HL.out.1.trans (HO.out.mono HL.out.1.size)
                    have hl := HL.out.2
                    go_grown
                · have st_0 := C_st_0.out
                  have st_1 := C_st_1.out
                  have st_2 := C_st_2.out
                  have st_z := World.block_lt_of_cell? _ _ C_st_0.out
                  have u_0 := B_u.out.cell (j := 0) rfl
                  have u_1 := B_u.out.cell (j := 1) rfl
                  have u_2 := B_u.out.cell (j := 2) rfl
                  have u_3 := B_u.out.cell (j := 3) rfl
                  have u_4 := B_u.out.cell (j := 4) rfl
                  have u_5 := B_u.out.cell (j := 5) rfl
                  have u_6 := B_u.out.cell (j := 6) rfl
                  have u_7 := B_u.out.cell (j := 7) rfl
                  have u_8 := B_u.out.cell (j := 8) rfl
                  have u_9 := B_u.out.cell (j := 9) rfl
                  have u_10 := B_u.out.cell (j := 10) rfl
                  have u_f := B_u.out.frozen
                  have u_z := B_u.out.lt
                  rw [h5] at st_0
                  go_wp2_with fail
                  refine (smul7 _ _ _).mono ?_
                  rintro e v6 ⟨rfl, hb⟩
                  clear st_0 st_1 st_2 st_z u_0 u_1 u_2 u_3 u_4 u_5 u_6 u_7 u_8 u_9 u_10 u_f u_z
                  replace B_R : Hid (Blk v6 (w.heap.size) #[.int .i64 0, .slice none 0 0] 48) := Blk.old (B_R.out) hb
                  replace B_q : Hid (Blk v6 (q) #[.int .i64 (pb G k).n, .int .i64 (pb G k).d] 36) := Blk.old (B_q.out) hb
                  replace B_u : Hid (Blk v6 (wr.heap.size) #[.int .i64 (G k).c.n, .int .i64 (G k).c.d, .int .i64 (G k).g.n, .int .i64 (G k).g.d, .int .i64 (G k).x.n, .int .i64 (G k).x.d, .int .i64 (G k).s.n, .int .i64 (G k).s.d, .int .i64 (G k).k.n, .int .i64 (G k).k.d, .bool (G k).t] 45) := Blk.old (B_u.out) hb
                  replace C_st_0 : Hid (v6.cell? ⟨q4, 0, none⟩ = some (.bool (subK (G k).x (pb G k)))) := kold hb (C_st_0.out)
                  replace C_st_1 : Hid (v6.cell? ⟨q4, 1, none⟩ = some (.int .i64 (subQ (G k).x (pb G k)).n)) := kold hb (C_st_1.out)
                  replace C_st_2 : Hid (v6.cell? ⟨q4, 2, none⟩ = some (.int .i64 (subQ (G k).x (pb G k)).d)) := kold hb (C_st_2.out)
                  replace B_pw : Hid (Blk v6 (v4.heap.size) #[.bool false, .int .i64 0, .int .i64 0] 81) := Blk.old (B_pw.out) hb
                  replace HO : Hid (Below wr.heap.size wr v6) := by have h := HO.out; have h0 := h.size; refine box_step ?_ hb (by go_size); go_grown
                  clear hb
                  have pw_0 := B_pw.out.cell (j := 0) rfl
                  have pw_1 := B_pw.out.cell (j := 1) rfl
                  have pw_2 := B_pw.out.cell (j := 2) rfl
                  have pw_f := B_pw.out.frozen
                  have pw_z := B_pw.out.lt
                  go_upto_region 15 with fail
                  clear pw_0 pw_1 pw_2 pw_f pw_z
                  obtain ⟨v7, hw⟩ : ∃ X, X = (((v6.setCell ⟨v4.heap.size, 0, none⟩ (.bool (mulK (subQ (G k).x (pb G k)) (G k).c))).setCell ⟨v4.heap.size, 1, none⟩ (.int .i64 (mulQ (subQ (G k).x (pb G k)) (G k).c).n)).setCell ⟨v4.heap.size, 2, none⟩ (.int .i64 (mulQ (subQ (G k).x (pb G k)) (G k).c).d)) := ⟨_, rfl⟩
                  rw [← hw]
                  replace B_R : Hid (Blk v7 (w.heap.size) #[.int .i64 0, .slice none 0 0] 48) := by rw [hw]; exact (Blk.setOther (Blk.setOther (Blk.setOther B_R.out ne_R_pw.out _) ne_R_pw.out _) ne_R_pw.out _)
                  replace B_q : Hid (Blk v7 (q) #[.int .i64 (pb G k).n, .int .i64 (pb G k).d] 36) := by rw [hw]; exact (Blk.setOther (Blk.setOther (Blk.setOther B_q.out ne_q_pw.out _) ne_q_pw.out _) ne_q_pw.out _)
                  replace B_u : Hid (Blk v7 (wr.heap.size) #[.int .i64 (G k).c.n, .int .i64 (G k).c.d, .int .i64 (G k).g.n, .int .i64 (G k).g.d, .int .i64 (G k).x.n, .int .i64 (G k).x.d, .int .i64 (G k).s.n, .int .i64 (G k).s.d, .int .i64 (G k).k.n, .int .i64 (G k).k.d, .bool (G k).t] 45) := by rw [hw]; exact (Blk.setOther (Blk.setOther (Blk.setOther B_u.out ne_u_pw.out _) ne_u_pw.out _) ne_u_pw.out _)
                  replace C_st_0 : Hid (v7.cell? ⟨q4, 0, none⟩ = some (.bool (subK (G k).x (pb G k)))) := by rw [hw]; exact (cell_ne ne_st_pw.out (cell_ne ne_st_pw.out (cell_ne ne_st_pw.out C_st_0.out)))
                  replace C_st_1 : Hid (v7.cell? ⟨q4, 1, none⟩ = some (.int .i64 (subQ (G k).x (pb G k)).n)) := by rw [hw]; exact (cell_ne ne_st_pw.out (cell_ne ne_st_pw.out (cell_ne ne_st_pw.out C_st_1.out)))
                  replace C_st_2 : Hid (v7.cell? ⟨q4, 2, none⟩ = some (.int .i64 (subQ (G k).x (pb G k)).d)) := by rw [hw]; exact (cell_ne ne_st_pw.out (cell_ne ne_st_pw.out (cell_ne ne_st_pw.out C_st_2.out)))
                  replace B_pw : Hid (Blk v7 (v4.heap.size) #[.bool (mulK (subQ (G k).x (pb G k)) (G k).c), .int .i64 (mulQ (subQ (G k).x (pb G k)) (G k).c).n, .int .i64 (mulQ (subQ (G k).x (pb G k)) (G k).c).d] 81) := by rw [hw]; exact (Blk.set (Blk.set (Blk.set B_pw.out _ rfl) _ rfl) _ rfl)
                  replace HO : Hid (Below wr.heap.size wr v7) := by rw [hw]; exact (((HO.out.setCell low_pw.out _).setCell low_pw.out _).setCell low_pw.out _)
                  clear hw
                  have k_u_0 : ∀ W, Below v7.heap.size v7 W → W.cell? ⟨wr.heap.size, 0, none⟩ = some (.int .i64 (G k).c.n) := fun _ h => kold h (B_u.out.cell (j := 0) rfl)
                  have k_u_1 : ∀ W, Below v7.heap.size v7 W → W.cell? ⟨wr.heap.size, 1, none⟩ = some (.int .i64 (G k).c.d) := fun _ h => kold h (B_u.out.cell (j := 1) rfl)
                  have k_u_2 : ∀ W, Below v7.heap.size v7 W → W.cell? ⟨wr.heap.size, 2, none⟩ = some (.int .i64 (G k).g.n) := fun _ h => kold h (B_u.out.cell (j := 2) rfl)
                  have k_u_3 : ∀ W, Below v7.heap.size v7 W → W.cell? ⟨wr.heap.size, 3, none⟩ = some (.int .i64 (G k).g.d) := fun _ h => kold h (B_u.out.cell (j := 3) rfl)
                  have k_u_4 : ∀ W, Below v7.heap.size v7 W → W.cell? ⟨wr.heap.size, 4, none⟩ = some (.int .i64 (G k).x.n) := fun _ h => kold h (B_u.out.cell (j := 4) rfl)
                  have k_u_5 : ∀ W, Below v7.heap.size v7 W → W.cell? ⟨wr.heap.size, 5, none⟩ = some (.int .i64 (G k).x.d) := fun _ h => kold h (B_u.out.cell (j := 5) rfl)
                  have k_u_6 : ∀ W, Below v7.heap.size v7 W → W.cell? ⟨wr.heap.size, 6, none⟩ = some (.int .i64 (G k).s.n) := fun _ h => kold h (B_u.out.cell (j := 6) rfl)
                  have k_u_7 : ∀ W, Below v7.heap.size v7 W → W.cell? ⟨wr.heap.size, 7, none⟩ = some (.int .i64 (G k).s.d) := fun _ h => kold h (B_u.out.cell (j := 7) rfl)
                  have k_u_8 : ∀ W, Below v7.heap.size v7 W → W.cell? ⟨wr.heap.size, 8, none⟩ = some (.int .i64 (G k).k.n) := fun _ h => kold h (B_u.out.cell (j := 8) rfl)
                  have k_u_9 : ∀ W, Below v7.heap.size v7 W → W.cell? ⟨wr.heap.size, 9, none⟩ = some (.int .i64 (G k).k.d) := fun _ h => kold h (B_u.out.cell (j := 9) rfl)
                  have k_u_10 : ∀ W, Below v7.heap.size v7 W → W.cell? ⟨wr.heap.size, 10, none⟩ = some (.bool (G k).t) := fun _ h => kold h (B_u.out.cell (j := 10) rfl)
                  have hR0 : Below v7.heap.size v7 v7 := Below.refl _ _
                  go_wp2_with fail
                  go_cut [9] (fun p wx => ∃ kx : Nat, p = .pointer (some ⟨kx, 0, none⟩) ∧ v7.heap.size ≤ kx ∧ kx < wx.heap.size ∧ Below v7.heap.size v7 wx ∧ wx.cell? ⟨kx, 0, none⟩ = some (.bool (gpK (G k))) ∧ wx.cell? ⟨kx, 1, none⟩ = some (.int .i64 (gpQ (G k)).n) ∧ wx.cell? ⟨kx, 2, none⟩ = some (.int .i64 (gpQ (G k)).d))
                  case first =>
                    go_region_held3 (fun W => Below v7.heap.size v7 W) (go_grown) (first | (go_at_call 40; refine (sof_t h2 _).mono ?_; rintro e wz ⟨rfl, hb1⟩; have hs1 := hb1.size; (try simp at hs1); have hR1 : Below v7.heap.size v7 wz := (by refine box_step ?_ hb1 (by go_size); go_grown); (first | (have hZ := box_step hZ hb1 (Nat.le_refl _)) | (have hZ := hb1)); obtain ⟨ho1, hf1, hz1⟩ := olds' hZ) | (go_at_call 44; refine (sdiv7_t _ _ _).mono ?_; rintro e wz ⟨rfl, hb1⟩; have hs1 := hb1.size; (try simp at hs1); have hR1 : Below v7.heap.size v7 wz := (by refine box_step ?_ hb1 (by go_size); go_grown); (first | (have hZ := box_step hZ hb1 (Nat.le_refl _)) | (have hZ := hb1)); obtain ⟨ho1, hf1, hz1⟩ := olds' hZ))
                    all_goals
                      go_wp2_with fail
                      go_meet
                      case rel =>
                        refine ⟨_, rfl, ?_, ?_, ?_, ?_, ?_, ?_⟩
                        · omega
                        · simp [World.setCell] <;> omega
                        · go_grown
                        · go_simp <;> rfl
                        · go_simp <;> rfl
                        · go_simp <;> rfl
                  case rest =>
                    obtain ⟨q8, rfl, hk1, hk2, hB, d0, d1, d2⟩ := hcut
                    clear k_u_0 k_u_1 k_u_2 k_u_3 k_u_4 k_u_5 k_u_6 k_u_7 k_u_8 k_u_9 k_u_10 hR0
                    obtain ⟨v8, hv⟩ : ∃ v, v = wc := ⟨_, rfl⟩
                    subst hv
                    replace HO : Hid (Below wr.heap.size wr v8) := HO.out.trans (hB.mono HO.out.size)
                    have ne_R_gp : Hid (w.heap.size ≠ q8) := Nat.ne_of_lt (Nat.lt_of_lt_of_le (B_R.out.lt) hk1)
                    have ne_q_gp : Hid (q ≠ q8) := Nat.ne_of_lt (Nat.lt_of_lt_of_le (B_q.out.lt) hk1)
                    have ne_u_gp : Hid (wr.heap.size ≠ q8) := Nat.ne_of_lt (Nat.lt_of_lt_of_le (B_u.out.lt) hk1)
                    have ne_st_gp : Hid (q4 ≠ q8) := Nat.ne_of_lt (Nat.lt_of_lt_of_le (World.block_lt_of_cell? _ _ C_st_0.out) hk1)
                    have ne_pw_gp : Hid (v4.heap.size ≠ q8) := Nat.ne_of_lt (Nat.lt_of_lt_of_le (B_pw.out.lt) hk1)
                    replace B_R : Hid (Blk v8 (w.heap.size) #[.int .i64 0, .slice none 0 0] 48) := Blk.old B_R.out hB
                    replace B_q : Hid (Blk v8 (q) #[.int .i64 (pb G k).n, .int .i64 (pb G k).d] 36) := Blk.old B_q.out hB
                    replace B_u : Hid (Blk v8 (wr.heap.size) #[.int .i64 (G k).c.n, .int .i64 (G k).c.d, .int .i64 (G k).g.n, .int .i64 (G k).g.d, .int .i64 (G k).x.n, .int .i64 (G k).x.d, .int .i64 (G k).s.n, .int .i64 (G k).s.d, .int .i64 (G k).k.n, .int .i64 (G k).k.d, .bool (G k).t] 45) := Blk.old B_u.out hB
                    replace C_st_0 : Hid (v8.cell? ⟨q4, 0, none⟩ = some (.bool (subK (G k).x (pb G k)))) := kold hB C_st_0.out
                    replace C_st_1 : Hid (v8.cell? ⟨q4, 1, none⟩ = some (.int .i64 (subQ (G k).x (pb G k)).n)) := kold hB C_st_1.out
                    replace C_st_2 : Hid (v8.cell? ⟨q4, 2, none⟩ = some (.int .i64 (subQ (G k).x (pb G k)).d)) := kold hB C_st_2.out
                    replace B_pw : Hid (Blk v8 (v4.heap.size) #[.bool (mulK (subQ (G k).x (pb G k)) (G k).c), .int .i64 (mulQ (subQ (G k).x (pb G k)) (G k).c).n, .int .i64 (mulQ (subQ (G k).x (pb G k)) (G k).c).d] 81) := Blk.old B_pw.out hB
                    have C_gp_0 : Hid (v8.cell? ⟨q8, 0, none⟩ = some (.bool (gpK (G k)))) := d0
                    have C_gp_1 : Hid (v8.cell? ⟨q8, 1, none⟩ = some (.int .i64 (gpQ (G k)).n)) := d1
                    have C_gp_2 : Hid (v8.cell? ⟨q8, 2, none⟩ = some (.int .i64 (gpQ (G k)).d)) := d2
                    clear hB hk1 hk2 d0 d1 d2
                    cases h6 : mulK (subQ (G k).x (pb G k)) (G k).c
                    · have HC : Hid (pcode G n = 3) := HP.out.bad hkn hfin.out (by unfold goodAt pwK; simp [h6])
                      have R_0 := B_R.out.cell (j := 0) rfl
                      have R_1 := B_R.out.cell (j := 1) rfl
                      have R_f := B_R.out.frozen
                      have R_z := B_R.out.lt
                      have pw_0 := B_pw.out.cell (j := 0) rfl
                      have pw_1 := B_pw.out.cell (j := 1) rfl
                      have pw_2 := B_pw.out.cell (j := 2) rfl
                      have pw_f := B_pw.out.frozen
                      have pw_z := B_pw.out.lt
                      rw [h6] at pw_0
                      clear B_R B_q B_u C_st_0 C_st_1 C_st_2 B_pw C_gp_0 C_gp_1 C_gp_2 ne_R_st ne_q_st ne_u_st ne_R_pw ne_q_pw ne_u_pw ne_st_pw ne_R_gp ne_q_gp ne_u_gp ne_st_gp ne_pw_gp low_pw
                      clear HP HCC h1 h2 h3 h4 h4b h5 h6 hpo hfin HPq
                      repeat go_step
                      refine bodyPost_ret (v := .agg #[.int .i64 3, .slice none 0 0]) (by simp [results, Try.results13, go_sem, R_0, R_1] <;> (repeat' (first | rfl | apply And.intro))) rfl ⟨_, by rw [HC.out], Or.inl ⟨by rw [HC.out]; decide, rfl⟩, ?_⟩
                      have h := HL.out.1.trans (HO.out.mono HL.out.1.size)
                      have hl := HL.out.2
                      go_grown
                    · cases h7 : gpK (G k)
                      · have HC : Hid (pcode G n = 3) := HP.out.bad hkn hfin.out (by unfold goodAt; simp [h7])
                        have R_0 := B_R.out.cell (j := 0) rfl
                        have R_1 := B_R.out.cell (j := 1) rfl
                        have R_f := B_R.out.frozen
                        have R_z := B_R.out.lt
                        have pw_0 := B_pw.out.cell (j := 0) rfl
                        have pw_1 := B_pw.out.cell (j := 1) rfl
                        have pw_2 := B_pw.out.cell (j := 2) rfl
                        have pw_f := B_pw.out.frozen
                        have pw_z := B_pw.out.lt
                        have gp_0 := C_gp_0.out
                        have gp_1 := C_gp_1.out
                        have gp_2 := C_gp_2.out
                        have gp_z := World.block_lt_of_cell? _ _ C_gp_0.out
                        rw [h6] at pw_0
                        rw [h7] at gp_0
                        clear B_R B_q B_u C_st_0 C_st_1 C_st_2 B_pw C_gp_0 C_gp_1 C_gp_2 ne_R_st ne_q_st ne_u_st ne_R_pw ne_q_pw ne_u_pw ne_st_pw ne_R_gp ne_q_gp ne_u_gp ne_st_gp ne_pw_gp low_pw
                        clear HP HCC h1 h2 h3 h4 h4b h5 h6 h7 hpo hfin HPq
                        repeat go_step
                        refine bodyPost_ret (v := .agg #[.int .i64 3, .slice none 0 0]) (by simp [results, Try.results13, go_sem, R_0, R_1] <;> (repeat' (first | rfl | apply And.intro))) rfl ⟨_, by rw [HC.out], Or.inl ⟨by rw [HC.out]; decide, rfl⟩, ?_⟩
                        have h := HL.out.1.trans (HO.out.mono HL.out.1.size)
                        have hl := HL.out.2
                        go_grown
                      · have HN : Hid (v8.ownsRow w.heap.size 99 3 u3 (2 * k) (flat (pp G) k) ∧ w.heap.size ≤ v8.heap.size) := ⟨owns_later HP.out.own HO.out, Nat.le_trans HP.out.below.size HO.out.size⟩
                        have hgood : Hid (goodAt G k = true) := by show goodAt G k = true; unfold goodAt pwK; simp [h5, h6, h7]
                        have pw_0 := B_pw.out.cell (j := 0) rfl
                        have pw_1 := B_pw.out.cell (j := 1) rfl
                        have pw_2 := B_pw.out.cell (j := 2) rfl
                        have pw_f := B_pw.out.frozen
                        have pw_z := B_pw.out.lt
                        have gp_0 := C_gp_0.out
                        have gp_1 := C_gp_1.out
                        have gp_2 := C_gp_2.out
                        have gp_z := World.block_lt_of_cell? _ _ C_gp_0.out
                        rw [h6] at pw_0
                        rw [h7] at gp_0
                        clear B_R C_st_0 C_st_1 C_st_2 B_pw C_gp_0 C_gp_1 C_gp_2 ne_R_st ne_q_st ne_u_st ne_R_pw ne_q_pw ne_u_pw ne_st_pw ne_R_gp ne_q_gp ne_u_gp ne_st_gp ne_pw_gp low_pw
                        clear HCC HL
                        have uq : wr.heap.size ≠ q := Nat.ne_of_gt HPq.out
                        clear h1 h2 h3 h4 h5 h6 h7 HPq
                        go_wp2_with (first | (at_builtin; refine push_many rfl (.tmp 78) (.tmp 85) 46 rfl 99 (.agg #[.int .i64 0, .int .i64 0, .int .i64 0]) 3 24 Try.underlying46 infoPt rfl (by decide) (by decide) _ [_, _, _, _, _, _] rfl (by simp [Value.oneCell']) w.heap.size u3 (2 * k) _ rfl HN.out.1 2 rfl (by omega) HN.out.2 ?_; intro v1 w9 own3 grow3 nn3; have HQ : Hid (PSt w G n w.heap.size q ((w9.setCell ⟨q, 0, none⟩ (.int .i64 (G k).x.n)).setCell ⟨q, 1, none⟩ (.int .i64 (G k).x.d)) v1 (k + 1)) := HP.out.push HO.out hkn hfin.out hgood.out rfl own3 grow3 nn3; have bu := block_other (B_u.out.alloc _) grow3 (HN.out.1.alloc _) (by decide); have bq := block_other (B_q.out.alloc _) grow3 (HN.out.1.alloc _) (by decide); clear own3 grow3 nn3; have u_4 := Blk.cell (j := 4) bu rfl; have u_5 := Blk.cell (j := 5) bu rfl; have q_0 := Blk.cell (j := 0) bq rfl; have q_1 := Blk.cell (j := 1) bq rfl; have q_f := Blk.frozen bq; clear bu bq))
                        go_roundw
                        case rel => exact ⟨k + 1, by omega, by simp, HQ⟩
                        case measure => simp [intOf]; omega
    · obtain rfl : k = n := by omega
      obtain ⟨g, cp, rfl⟩ : ∃ g cp, u3 = .slice (some ⟨g, 0, none⟩) (2 * k) cp := by
        obtain ⟨_, h1 | ⟨g, cap, cur, hv, _⟩⟩ := HP.out.own
        · exact absurd h1.1 HP.out.nn
        · exact ⟨g, cap, hv⟩
      have HE : Hid (pcode G k = 0 ∧ PAns G k w (.slice (some ⟨g, 0, none⟩) (2 * k) cp) ((wr.setCell ⟨w.heap.size, 0, none⟩ (.int .i64 0)).setCell ⟨w.heap.size, 1, none⟩ (.slice (some ⟨g, 0, none⟩) (2 * k) cp)) ∧ Below w.heap.size w wr) := ⟨(HP.out.fin (a := .int .i64 0) (b := .slice (some ⟨g, 0, none⟩) (2 * k) cp) h40).1, (HP.out.fin (a := .int .i64 0) (b := .slice (some ⟨g, 0, none⟩) (2 * k) cp) h40).2, HP.out.below⟩
      have R_0 := HP.out.res.cell (j := 0) rfl
      have R_1 := HP.out.res.cell (j := 1) rfl
      have R_f := HP.out.res.frozen
      clear HP HCC
      go_wp2
      refine bodyPost_ret (v := .agg #[.int .i64 0, .slice (some ⟨g, 0, none⟩) (2 * k) cp]) (by simp [results, Try.results13, go_sem, R_0, R_1] <;> (repeat' (first | rfl | apply And.intro))) rfl ⟨_, by rw [HE.out.1], HE.out.2.1, ?_⟩
      have h := HE.out.2.2
      go_grown
end Go.Proofs.Ytfdgnafakjlhaaa
