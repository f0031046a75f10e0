/- The program's solution of equations: contract. -/
import Derived.Test.YtboppklcmdfphaaIinv
namespace Go.Proofs.Ytboppklcmdfphaa
open Go.RowKit
set_option linter.unusedVariables false
/-- The residues with the right side behind them, its first k numbers laid. -/
def sideTo (A : Rm.Mx) (R : Nat → Int) (n k : Nat) : Rm.Mx := fun i j => if j < n then Rm.md (A i j) else if j = n ∧ i < k then Rm.md (R i) else 0
def solM0 (A : Rm.Mx) (R : Nat → Int) (n : Nat) : Rm.Mx := fun i j => if j < n then Rm.md (A i j) else Rm.md (R i)
theorem solM0_res (A : Rm.Mx) (R : Nat → Int) (n m k : Nat) : Rm.Res m k (solM0 A R n) := by
  intro i j _ _
  unfold solM0
  split
  · exact ⟨Rm.md_lo _, Rm.md_hi _⟩
  · exact ⟨Rm.md_lo _, Rm.md_hi _⟩
def solOut (A : Rm.Mx) (R : Nat → Int) (n : Nat) : Nat → Int := fun i => (Rm.elim n (solM0 A R n) n).getD (fun _ _ => 0) i n
def solCode (n : Nat) (L : Nat → Nat) (A : Rm.Mx) (m : Nat) (R : Nat → Int) : Int := if faultOf n L ≠ 0 then faultOf n L else if m ≠ n then 1 else if (Rm.elim n (solM0 A R n) n).isNone = true then 4 else 0
theorem solCode_dim {n : Nat} {L : Nat → Nat} {A : Rm.Mx} {m : Nat} {R : Nat → Int} (h : solCode n L A m R = 0) : n ≤ 1000 := by
  by_cases h1 : faultOf n L = 0
  · have := (fault_right h1).2.1
    omega
  · rw [show solCode n L A m R = faultOf n L by simp [solCode, h1]] at h
    exact absurd h h1
structure SoIn (w0 w : World) (m : Lie) (n wd : Nat) (F : Rm.Mx) : Prop where
  box : Box w w0.heap.size 34
  m : Mat (w0.heap.size + 1) w.heap.size w m n (fun _ => wd) F
  below : Below w0.heap.size w0 w
theorem SoIn.set {w0 w : World} {m : Lie} {n wd : Nat} {F : Rm.Mx} (h : SoIn w0 w m n wd F) {i j : Nat} (hi : i < n) (hj : j < wd) (x : Int) :
    SoIn w0 (w.setCell ⟨m.bs i, m.os i + j, none⟩ (.int .i64 x)) m n wd (fun r c => if r = i ∧ c = j then x else F r c) := by
  have hl := h.m.rlo i hi
  refine ⟨?_, ?_, h.below.setCell (by show w0.heap.size ≤ m.bs i; omega) _⟩
  · unfold Box
    rw [Below.heap_setCell _ _ _ _ (by show w0.heap.size ≠ m.bs i; omega)]
    exact h.box
  · have := h.m.set hi hj x
    rwa [← World.size_setCell (w := w) (a := ⟨m.bs i, m.os i + j, none⟩) (v := .int .i64 x)] at this
theorem SoIn.congr {w0 w : World} {m : Lie} {n wd : Nat} {F G : Rm.Mx} (h : SoIn w0 w m n wd F) (e : ∀ i j, i < n → j < wd → F i j = G i j) : SoIn w0 w m n wd G := ⟨h.box, h.m.congr e, h.below⟩
theorem SoIn.drewN {w0 w : World} {m : Lie} {n wd : Nat} {F : Rm.Mx} (h : SoIn w0 w m n wd F) (q : Nat) : SoIn w0 (w.drewN q) m n wd F := ⟨h.box, h.m.keep fun _ _ _ => rfl, below_drewN h.below q⟩
theorem wide_one {ma : Lie} {n : Nat} {La : Nat → Nat} {A : Rm.Mx} {w : World} (hA : Mat 0 w.heap.size w ma n La A) (hn : n ≤ 24) (hLa : ∀ k, k < n → La k = n) :
    Calls Try.prog 61 #[.slice (some ⟨ma.b, 0, none⟩) n ma.cap, .int .i64 1] w fun e w' => e = .returned (.slice (some ⟨w.heap.size, 0, none⟩) n n) ∧
      Mat w.heap.size w'.heap.size w' (newLie w.heap.size n (fun _ => n + 1)) n (fun _ => n + 1) (fun i j => if j < n then Rm.md (A i j) else 0) ∧ Below w.heap.size w w' := wide_any (more := 1) hA hn (by omega) hLa
set_option maxHeartbeats 800000 in
theorem iSol_e1 {lo hi : Nat} {ma : Lie} {na : Nat} {La : Nat → Nat} {A : Rm.Mx} {w : World} (b m cap : Nat) (hA : Mat lo hi w ma na La A) (hna : na ≤ 1000000000000) (hLa : ∀ k, k < na → La k ≤ 1000000000000) (hc : faultOf na La ≠ 0) :
    Calls Try.prog 24 #[.slice (some ⟨ma.b, 0, none⟩) na ma.cap, .slice (some ⟨b, 0, none⟩) m cap] w fun e w' => e = .returned (.agg #[.int .i64 (faultOf na La), .slice none 0 0]) ∧ Below w.heap.size w w' := by
  have TA : ∀ o, Hid (Tops (w.alloc o) ma.b 0 na La) := fun o => hA.tops.alloc o
  have LA : Hid (∀ k, k < na → La k ≤ 9223372036854775807) := fun k hk => Nat.le_trans (hLa k hk) (by omega)
  have hc1 : (faultOf na La != 0) = true := by rw [bne_iff_ne]; exact hc
  clear hA hLa hc
  go_enter Try.func24, Try.ntmps24
  go_wp2_with fail
  refine (iFault_any _ _ _ _ La _ (by omega) LA.out (TA _).out).mono ?_
  rintro e w1 ⟨rfl, rfl⟩
  go_wp2
  refine bodyPost_ret (v := .agg #[.int .i64 (faultOf na La), .slice none 0 0]) (by simp [results, Try.results24, go_sem]) rfl ⟨rfl, ?_⟩
  repeat (first | exact Below.refl _ _ | (refine Below.setCell ?_ (by simp) _) | (refine Below.alloc ?_ (by simp <;> omega) _))
set_option maxHeartbeats 800000 in
theorem iSol_e2 {lo hi : Nat} {ma : Lie} {na : Nat} {La : Nat → Nat} {A : Rm.Mx} {w : World} (b m cap : Nat) (hA : Mat lo hi w ma na La A) (hna : na ≤ 1000000000000) (hm : m ≤ 1000000000000) (hLa : ∀ k, k < na → La k ≤ 1000000000000) (hc : faultOf na La = 0) (hne : m ≠ na) :
    Calls Try.prog 24 #[.slice (some ⟨ma.b, 0, none⟩) na ma.cap, .slice (some ⟨b, 0, none⟩) m cap] w fun e w' => e = .returned (.agg #[.int .i64 1, .slice none 0 0]) ∧ Below w.heap.size w w' := by
  have TA : ∀ o, Hid (Tops (w.alloc o) ma.b 0 na La) := fun o => hA.tops.alloc o
  have LA : Hid (∀ k, k < na → La k ≤ 9223372036854775807) := fun k hk => Nat.le_trans (hLa k hk) (by omega)
  have hc1 : (((m : Nat) : Int) != ((na : Nat) : Int)) = true := ne_bool hne
  have HC : Hid (faultOf na La = 0) := hc
  clear hA hLa hc hne
  go_enter Try.func24, Try.ntmps24
  go_wp2_with fail
  refine (iFault_any _ _ _ _ La _ (by omega) LA.out (TA _).out).mono ?_
  rintro e w1 ⟨rfl, rfl⟩
  rw [HC.out]
  go_wp2
  refine bodyPost_ret (v := .agg #[.int .i64 1, .slice none 0 0]) (by simp [results, Try.results24, go_sem]) rfl ⟨rfl, ?_⟩
  repeat (first | exact Below.refl _ _ | (refine Below.setCell ?_ (by simp) _) | (refine Below.alloc ?_ (by simp <;> omega) _))
set_option maxHeartbeats 1600000 in
set_option maxRecDepth 100000 in
theorem iSol_go {ma : Lie} {n b cap : Nat} {La : Nat → Nat} {A : Rm.Mx} {R : Nat → Int} {w : World} (hA : Mat 0 w.heap.size w ma n La A) (hR : Seg w b 2 0 n (fun i => .int .i64 (R i))) (hn : n ≤ 24) (h0 : 0 < n) (hLa : ∀ k, k < n → La k = n) (hc : faultOf n La = 0) :
    Calls Try.prog 24 #[.slice (some ⟨ma.b, 0, none⟩) n ma.cap, .slice (some ⟨b, 0, none⟩) n cap] w fun e w' => ∃ v, e = .returned (.agg #[.int .i64 (solCode n La A n R), v]) ∧ OwnL w.heap.size w'.heap.size w' (solCode n La A n R) v n (solOut A R n) ∧ Below w.heap.size w w' := by
  have TA : ∀ o, Hid (Tops (w.alloc o) ma.b 0 n La) := fun o => hA.tops.alloc o
  have LA : Hid (∀ k, k < n → La k = n) := hLa
  have MA : ∀ o, Hid (Mat 0 (w.alloc o).heap.size (w.alloc o) ma n La A) := fun o => mat_all (hA.alloc o (Nat.le_refl _)) (by simp)
  have HC : Hid (faultOf n La = 0) := hc
  have HRT : Hid (Seg w b 2 0 n (fun i => .int .i64 (R i))) := hR
  clear hA hLa hc hR
  go_enter Try.func24, Try.ntmps24
  go_wp2_with fail
  refine (iFault_any _ _ _ _ La _ (by omega) (fun k hk => by rw [LA.out k hk]; omega) (TA _).out).mono ?_
  rintro e w1 ⟨rfl, rfl⟩
  rw [HC.out]
  go_wp2_with fail
  refine (wide_one (MA _).out hn LA.out).mono ?_
  rintro e w1 ⟨rfl, hm1, hb1⟩
  simp only [World.size_alloc] at hm1 hb1
  obtain ⟨m, hm⟩ : ∃ m : Lie, m = newLie (w.heap.size + 1) n (fun _ => n + 1) := ⟨_, rfl⟩
  have E : Hid (m.b = w.heap.size + 1 ∧ m.cap = n ∧ ∀ i, i < n → m.os i = 0 ∧ m.cs i = n + 1) := by rw [hm]; exact ⟨rfl, rfl, fun _ _ => ⟨rfl, rfl⟩⟩
  have HI : Hid (SoIn w w1 m n (n + 1) (sideTo A R n 0)) := by
    rw [← hm] at hm1
    refine ⟨(hb1.block _ (by omega)).trans (heap_alloc_new _ _), hm1.congr fun i j _ _ => by simp [sideTo], ((Below.refl _ _).alloc (Nat.le_refl _) _).trans (hb1.mono (by omega))⟩
  clear hm1 hb1 hm TA MA
  go_wp2_with fail
  go_loopw [27] (fun c wr => ∃ i : Nat, i ≤ n ∧ c = .int .i64 i ∧ SoIn w wr m n (n + 1) (sideTo A R n i)) (fun c _ => n - (intOf c).toNat)
  case atStart => exact ⟨0, Nat.zero_le _, rfl, HI.out⟩
  case round =>
    obtain ⟨i, hi, rfl, hr⟩ := hrel
    clear HI
    by_cases hin : i < n
    · obtain ⟨wd, hwd⟩ : ∃ wd, wd = n + 1 := ⟨_, rfl⟩
      rw [← hwd] at hr
      have hjw : n < wd := by omega
      have g1 : wr.cell? ⟨w.heap.size + 1, i, none⟩ = some (.slice (some ⟨m.bs i, m.os i, none⟩) wd (m.cs i)) := by rw [← E.out.1]; exact hr.m.cellRow hin
      have g2 : wr.cell? ⟨b, i, none⟩ = some (.int .i64 (R i)) := by simpa using (HRT.out.of_block (hr.below.block _ HRT.out.lt)).cell hin
      have g3 : wr.cell? ⟨m.bs i, m.os i + n, none⟩ = some (.int .i64 (sideTo A R n i i n)) := hr.m.cellAt hin hjw
      have g4 : wr.frozen? ⟨m.bs i, m.os i + n, none⟩ = false := (hr.m.row i hin).frozen _
      have HN : Hid (SoIn w (wr.setCell ⟨m.bs i, m.os i + n, none⟩ (.int .i64 (Rm.md (R i)))).drew m n (n + 1) (sideTo A R n (i + 1))) := by
        rw [← hwd]
        refine ((hr.set hin hjw (Rm.md (R i))).congr fun r c _ _ => ?_).drewN 1
        unfold sideTo
        by_cases e : r = i ∧ c = n
        · obtain ⟨rfl, rfl⟩ := e; rw [if_pos ⟨rfl, rfl⟩, if_neg (by omega), if_pos ⟨rfl, by omega⟩]
        · rw [if_neg e]
          by_cases e1 : c < n
          · rw [if_pos e1, if_pos e1]
          · rw [if_neg e1, if_neg e1]
            by_cases e2 : c = n ∧ r < i
            · rw [if_pos e2, if_pos (by omega)]
            · rw [if_neg e2, if_neg (by omega)]
      clear hr hwd
      go_wp2_with fail
      go_region_with (first | (go_at_call 64; refine (residue_any _ _).mono ?_; rintro e w1 ⟨rfl, rfl⟩))
      all_goals
        go_wp2
        exact ⟨⟨i + 1, by omega, by simp, HN.out⟩, by simp [intOf]; omega⟩
    · obtain rfl : i = n := by omega
      have HX : Hid (SoIn w wr m i (i + 1) (solM0 A R i)) := hr.congr fun r c hr hc => by
        unfold sideTo solM0
        by_cases e1 : c < i
        · rw [if_pos e1, if_pos e1]
        · rw [if_neg e1, if_neg e1, if_pos ⟨by omega, hr⟩]
      clear hr
      have HE : Hid (El (w.heap.size + 1) wr.heap.size wr wr (w.heap.size + 1) i i (i + 1) (solM0 A R i)) := ⟨m, E.out.1, E.out.2.1, E.out.2.2, HX.out.m, Within.refl _ _ _, rfl⟩
      obtain ⟨v, hv⟩ : ∃ v, v = wr := ⟨_, rfl⟩
      subst hv
      go_wp2_with fail
      refine (elim_any HE.out hn (by omega) (by omega) (solM0_res A R i i (i + 1))).mono ?_
      rintro e w2 ⟨r, rfl, hwi, hsz, hcase⟩
      have HW : Hid (Within (w.heap.size + 1) v.heap.size v w2 ∧ w2.heap.size = v.heap.size) := ⟨hwi, hsz⟩
      have HCS : Hid ((r = false ∧ Rm.elim i (solM0 A R i) i = none) ∨ (r = true ∧ ∃ B, Rm.elim i (solM0 A R i) i = some B ∧ El (w.heap.size + 1) v.heap.size v w2 (w.heap.size + 1) i i (i + 1) B)) := hcase
      clear hwi hsz hcase
      have B2 : Hid (Box w2 w.heap.size 34) := (HW.out.1.below.block _ (by omega)).trans HX.out.box
      have BL2 : Hid (Below w.heap.size w w2) := HX.out.below.trans (HW.out.1.below.mono (by omega))
      cases r
      · have hc4 : Hid (solCode i La A i R = 4) := by
          rcases HCS.out with ⟨_, h⟩ | ⟨h, _⟩
          · show solCode i La A i R = 4
            simp [solCode, HC.out, h]
          · cases h
        have c0 := B2.out.c0
        have c1 := B2.out.c1
        have f0 := B2.out.fz 0
        have f1 := B2.out.fz 1
        go_wp2
        refine bodyPost_ret (v := .agg #[.int .i64 4, .slice none 0 0]) (by simp [results, Try.results24, go_sem, c0, c1]) rfl ⟨.slice none 0 0, by rw [hc4.out], Or.inl ⟨by rw [hc4.out]; omega, rfl⟩, ?_⟩
        exact (BL2.out.setCell (Nat.le_refl _) _).setCell (Nat.le_refl _) _
      · obtain ⟨B, hB, hEl⟩ : ∃ B, Rm.elim i (solM0 A R i) i = some B ∧ El (w.heap.size + 1) v.heap.size v w2 (w.heap.size + 1) i i (i + 1) B := by
          rcases HCS.out with ⟨h, _⟩ | ⟨_, h⟩
          · cases h
          · exact h
        have hc0 : Hid (solCode i La A i R = 0 ∧ ∀ r, solOut A R i r = B r i) := ⟨by simp [solCode, HC.out, hB], fun r => by simp [solOut, hB]⟩
        obtain ⟨m', e1, e2, h3, h4, h5, h6⟩ := hEl
        have HM : Hid (Mat (w.heap.size + 1) v.heap.size w2 m' i (fun _ => i + 1) B ∧ m'.b = w.heap.size + 1) := ⟨h4, e1⟩
        have hlt2 := B2.out.lt
        have hmk := run_make_row' (P := Try.prog) 32 2 (.int .i64 0) 8 Try.underlying32 info2 rfl .i64 .i64 i (by omega) (by omega)
        clear hB e1 e2 h3 h4 h5 h6 HCS HE HX
        go_wp2_with fail
        clear hmk
        go_loopw [49] (fun c wr => ∃ k : Nat, k ≤ i ∧ c = .int .i64 k ∧ Seg wr w2.heap.size 2 0 i (fun j => if j < k then .int .i64 (B j i) else .int .i64 0) ∧ Below w2.heap.size w2 wr) (fun c _ => i - (intOf c).toNat)
        case atStart => exact ⟨0, Nat.zero_le _, rfl, (seg_made w2 _ i 2).congr (fun j _ => by simp), (Below.refl _ _).alloc (Nat.le_refl _) _⟩
        case round =>
          obtain ⟨k, hk, rfl, hs, hb⟩ := hrel
          by_cases hki : k < i
          · have hsz := HW.out.2
            have g1 : wr.cell? ⟨w.heap.size + 1, k, none⟩ = some (.slice (some ⟨m'.bs k, m'.os k, none⟩) (i + 1) (m'.cs k)) := by
              have := HM.out.1.cellRow hki
              rw [HM.out.2] at this
              rw [hb.cell (World.block_lt_of_cell? _ _ this)]
              exact this
            have g2 : wr.cell? ⟨m'.bs k, m'.os k + i, none⟩ = some (.int .i64 (B k i)) := by
              have := HM.out.1.cellAt hki (show i < i + 1 by omega)
              rw [hb.cell (World.block_lt_of_cell? _ _ this)]
              exact this
            have g3 : wr.cell? ⟨w2.heap.size, k, none⟩ = some (.int .i64 0) := by simpa using hs.cell hki
            have g4 : wr.frozen? ⟨w2.heap.size, k, none⟩ = false := hs.frozen k
            have HN : Hid (Seg (wr.setCell ⟨w2.heap.size, k, none⟩ (.int .i64 (B k i))) w2.heap.size 2 0 i (fun j => if j < k + 1 then .int .i64 (B j i) else .int .i64 0) ∧ Below w2.heap.size w2 (wr.setCell ⟨w2.heap.size, k, none⟩ (.int .i64 (B k i)))) := by
              refine ⟨?_, hb.setCell (Nat.le_refl _) _⟩
              have := hs.set k hki (.int .i64 (B k i))
              rw [Nat.zero_add] at this
              refine this.congr fun j hj => ?_
              by_cases e : j = k
              · subst e; simp
              · by_cases e2 : j < k
                · simp [e, e2, Nat.lt_succ_of_lt e2]
                · simp [e, e2]; intro h; omega
            clear hs hb hsz
            go_wp2
            exact ⟨⟨k + 1, by omega, by simp, HN.out⟩, by simp [intOf]; omega⟩
          · obtain rfl : k = i := by omega
            have HF : Hid (Seg wr w2.heap.size 2 0 k (fun j => .int .i64 (B j k)) ∧ Below w2.heap.size w2 wr) := ⟨hs.congr fun j hj => by simp [hj], hb⟩
            clear hs hb
            have BX : Hid (Box wr w.heap.size 34) := B2.out.later HF.out.2 B2.out.lt
            have c0 := BX.out.c0
            have c1 := BX.out.c1
            have f0 := BX.out.fz 0
            have f1 := BX.out.fz 1
            go_wp2
            refine bodyPost_ret (v := .agg #[.int .i64 0, .slice (some ⟨w2.heap.size, 0, none⟩) k k]) (by simp [results, Try.results24, go_sem, c0, c1]) rfl ⟨.slice (some ⟨w2.heap.size, 0, none⟩) k k, by rw [hc0.out.1], Or.inr ⟨hc0.out.1, w2.heap.size, k, rfl, by omega, ?_, ?_⟩, ?_⟩
            · simp only [World.size_setCell]
              exact HF.out.1.lt
            · exact ((HF.out.1.congr fun j _ => by rw [hc0.out.2 j]).setOther (by show w2.heap.size ≠ w.heap.size; omega) _).setOther (by show w2.heap.size ≠ w.heap.size; omega) _
            · exact ((BL2.out.trans (HF.out.2.mono (Nat.le_of_lt hlt2))).setCell (Nat.le_refl _) _).setCell (Nat.le_refl _) _
end Go.Proofs.Ytboppklcmdfphaa
