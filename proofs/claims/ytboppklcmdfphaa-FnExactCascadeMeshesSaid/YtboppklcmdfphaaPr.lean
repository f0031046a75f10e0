/- ProgramMesh of the program: contract. -/
import Derived.Test.YtboppklcmdfphaaLf
import Derived.Test.YtboppklcmdfphaaRp
import Derived.Test.YtboppklcmdfphaaRv
import Derived.Test.YtboppklcmdfphaaFaults
namespace Go.Proofs.Ytboppklcmdfphaa
open Go.RowKit
set_option linter.unusedVariables false
set_option linter.unusedSimpArgs false
/-- The residues of a matrix. -/
def rsm (A : Rm.Mx) : Rm.Mx := fun i j => Rm.md (A i j)
theorem rsm_res (A : Rm.Mx) (n m : Nat) : Rm.Res n m (rsm A) := fun i j _ _ => ⟨Rm.md_lo _, Rm.md_hi _⟩
/-- What ProgramMesh answers. -/
def pgo (n : Nat) (L : Nat → Nat) (A : Rm.Mx) : Option (Rm.Mx × List Ce) := if faultOf n L = 0 then Rm.pg n (rsm A) n else none
def pcd (n : Nat) (L : Nat → Nat) (A : Rm.Mx) : Int := if faultOf n L ≠ 0 then faultOf n L else if (pgo n L A).isNone = true then 4 else 0
def psd (n : Nat) (L : Nat → Nat) (A : Rm.Mx) : Int := if (pgo n L A).isNone = true then 0 else n
def pnp (n : Nat) (L : Nat → Nat) (A : Rm.Mx) : Nat := if (pgo n L A).isNone = true then 0 else n
def pph (n : Nat) (L : Nat → Nat) (A : Rm.Mx) (i : Nat) : Int := ((pgo n L A).getD (fun _ _ => 0, [])).1 i i
def pnc (n : Nat) (L : Nat → Nat) (A : Rm.Mx) : Nat := ((pgo n L A).getD (fun _ _ => 0, [])).2.length
def pC (n : Nat) (L : Nat → Nat) (A : Rm.Mx) (i : Nat) : Ce := ((pgo n L A).getD (fun _ _ => 0, [])).2.reverse.getD i Rm.nilC
theorem pgo_none_all {n : Nat} {L : Nat → Nat} {A : Rm.Mx} (h : pgo n L A = none) : psd n L A = 0 ∧ pnp n L A = 0 ∧ pnc n L A = 0 := by simp [psd, pnp, pnc, h]
theorem pnp_le (n : Nat) (L : Nat → Nat) (A : Rm.Mx) : pnp n L A ≤ 24 := by
  unfold pnp
  split
  · omega
  · rename_i h
    unfold pgo at h
    split at h
    · rename_i h1; exact (fault_right h1).2.1
    · simp at h
theorem pnc_le (n : Nat) (L : Nat → Nat) (A : Rm.Mx) : pnc n L A ≤ 576 := by
  unfold pnc
  cases h : pgo n L A with
  | none => simp
  | some s =>
    unfold pgo at h
    split at h
    · rename_i h1
      have h2 := (fault_right h1).2.1
      have := Rm.pg_len n (Nat.le_refl _) s.1 s.2 h
      have h3 : n * n ≤ 24 * 24 := Nat.mul_le_mul h2 h2
      simp
      omega
    · simp at h
theorem own_shape {w : World} {base n : Nat} {t : TypeId} {m : Nat} {v : Value} {xs : List Value} (h : w.ownsRow base t m v n xs) : ∃ ao cp, v = .slice ao n cp := by
  obtain ⟨_, ⟨rfl, h2⟩ | ⟨g, cap, cur, rfl, _⟩⟩ := h
  · exact ⟨none, 0, by rw [h2]⟩
  · exact ⟨_, cap, rfl⟩
theorem rev_get (N : List Ce) {i : Nat} (hi : i < N.length) : N.getD (N.length - 1 - i) Rm.nilC = N.reverse.getD i Rm.nilC := by
  rw [List.getD_eq_getElem?_getD, List.getD_eq_getElem?_getD, List.getElem?_reverse hi]
theorem rev_own {base : Nat} {W : World} {v : Value} {N : List Ce} (h : OwL base W v N) (hn : N.length ≤ 1000) :
    Calls Try.prog 85 #[v] W fun e w' => e = .returned (.tuple #[]) ∧ OwC base w'.heap.size w' v N.length (fun i => N.reverse.getD i Rm.nilC) ∧ Below base W w' ∧ w'.heap.size = W.heap.size := by
  rcases h.seg with ⟨rfl, rfl⟩ | ⟨g, cap, rfl, hg, hs⟩
  · refine (rev_none _ _ _).mono ?_
    rintro e w1 ⟨rfl, rfl⟩
    exact ⟨rfl, Or.inl ⟨_, _, rfl, rfl⟩, Below.refl _ _, rfl⟩
  · by_cases h0 : N.length = 0
    · rw [h0]
      refine (rev_none _ _ _).mono ?_
      rintro e w1 ⟨rfl, rfl⟩
      exact ⟨rfl, Or.inl ⟨_, _, rfl, rfl⟩, Below.refl _ _, rfl⟩
    · refine (rev_some g N.length cap (fun i => N.getD i Rm.nilC) W (by omega) hn hs).mono ?_
      rintro e w1 ⟨rfl, hs1, hw1, hz1⟩
      exact ⟨rfl, Or.inr ⟨g, cap, rfl, hg, hs1.lt, hs1.congr fun i hi q _ => by rw [rev_get N hi]⟩, hw1.below.mono hg, hz1⟩
set_option maxRecDepth 20000 in
set_option maxHeartbeats 4000000 in
theorem iProg_any {w : World} (b off cap : Nat) {n : Nat} {L : Nat → Nat} {A : Rm.Mx} (hA : RdMat w (.slice (some ⟨b, off, none⟩) n cap) n L A) (hn : n ≤ 1000000000000) (hL : ∀ k, k < n → L k ≤ 1000000000000) :
    Calls Try.prog 44 #[.slice (some ⟨b, off, none⟩) n cap] w fun e w' => ∃ v0 v1, e = .returned (.agg #[.int .i64 (pcd n L A), .int .i64 (psd n L A), v0, v1]) ∧ MeO w.heap.size w'.heap.size w' v0 v1 (pnp n L A) (pph n L A) (pnc n L A) (pC n L A) ∧ Below w.heap.size w w' := by
  obtain ⟨X, hX⟩ : ∃ X, X = w.alloc (.cells #[.int .i64 0, .int .i64 0, .slice none 0 0, .slice none 0 0] 61) := ⟨_, rfl⟩
  have HX : Hid (Blk X w.heap.size #[.int .i64 0, .int .i64 0, .slice none 0 0, .slice none 0 0] 61 ∧ Below w.heap.size w X ∧ X.heap.size = w.heap.size + 1) := by rw [hX]; exact ⟨Blk.new rfl, (Below.refl _ _).alloc (Nat.le_refl _) _, by simp⟩
  have HA : Hid (RdMat X (.slice (some ⟨b, off, none⟩) n cap) n L A) := hA.later HX.out.2.1
  have HL : Hid (∀ k, k < n → L k ≤ 9223372036854775807) := fun k hk => Nat.le_trans (hL k hk) (by omega)
  have zX := HX.out.2.2
  clear hA hL
  go_enter Try.func44, Try.ntmps44
  go_wp2_with fail
  rw [← hX]
  clear hX
  refine (iFault_any _ _ _ _ L _ (by omega) HL.out (HA.out.tops)).mono ?_
  rintro e w1 ⟨rfl, rfl⟩
  by_cases hf : faultOf n L = 0
  · obtain ⟨h0, h24, hLn⟩ := fault_right hf
    have HF : Hid (faultOf n L = 0) := hf
    rw [HF.out]
    clear hf
    obtain ⟨vs, hvs⟩ : ∃ vs : Nat → Value, ∀ i, i < n → X.cell? ⟨b, off + i, none⟩ = some (vs i) ∧ RdRow X (vs i) n (A i) := by
      rcases HA.out with ⟨_, _, _, e⟩ | ⟨b', off', cap', vs, e, hv⟩
      · omega
      · simp only [Value.slice.injEq, Option.some.injEq, Addr.mk.injEq] at e
        obtain ⟨⟨rfl, rfl, _⟩, _, rfl⟩ := e
        exact ⟨vs, fun i hi => ⟨(hv i hi).1, by have := (hv i hi).2; rw [hLn i hi] at this; exact this⟩⟩
    have HV : Hid (∀ i, i < n → X.cell? ⟨b, off + i, none⟩ = some (vs i) ∧ RdRow X (vs i) n (A i)) := hvs
    clear hvs hLn HA HL
    go_wp2_with fail
    refine (guides_any b off n cap vs (fun _ => n) A X (by omega) (fun _ _ => ⟨h0, by omega⟩) HV.out).mono ?_
    rintro e w2 ⟨rfl, hg, hb2⟩
    obtain ⟨m, hm⟩ : ∃ m : Lie, m = newLie X.heap.size n (fun _ => n) := ⟨_, rfl⟩
    rw [← hm] at hg
    have EM : Hid ((newLie X.heap.size n (fun _ => n)).val n = .slice (some ⟨m.b, 0, none⟩) n m.cap) := by rw [hm]; rfl
    rw [EM.out]
    clear hm EM HV
    have z2 : X.heap.size ≤ w2.heap.size := hb2.size
    have H2 : Hid (Gm X.heap.size w2.heap.size w2 m n (fun _ => n) (rsm A) ∧ Below X.heap.size X w2) := ⟨hg, hb2⟩
    clear hg hb2
    go_wp2_with fail
    go_loopw [5, 20] (fun v s wr => ∃ (c : Nat) (W : Rm.Mx) (N : List Ce), c ≤ n ∧ s = .int .i64 c ∧ Hid (Rm.pg n (rsm A) c = some (W, N) ∧ Gm X.heap.size w2.heap.size wr m n (fun _ => n) W ∧ OwL w2.heap.size wr v N ∧ Below X.heap.size X wr ∧ w2.heap.size ≤ wr.heap.size)) (fun _ s _ => n - (intOf s).toNat)
    case atStart => exact ⟨0, rsm A, [], Nat.zero_le _, rfl, rfl, H2.out.1, OwL.nil _ _, H2.out.2, Nat.le_refl _⟩
    case round =>
      obtain ⟨c, W, N, hc, rfl, HS⟩ := hrel
      have HPG : Hid (Rm.pg n (rsm A) c = some (W, N)) := HS.out.1
      have hlen : N.length ≤ 576 := by
        have h1 := Rm.pg_len c hc W N HS.out.1
        have h3 : c * n ≤ 24 * 24 := Nat.mul_le_mul (by omega) h24
        omega
      have HRes : Hid (Rm.Res n n W) := Rm.res_pg (rsm_res A n n) c hc W N HS.out.1
      by_cases hcn : c < n
      · go_wp2_with fail
        refine (pivotG_any HS.out.2.1 (by omega) hcn hcn (by omega)).mono ?_
        rintro e w3 ⟨rfl, rfl⟩
        obtain ⟨pv, hpv⟩ : ∃ pv : Int, pv = Rm.pv W c (n - c) := ⟨_, rfl⟩
        have HPV : Hid (pv = Rm.pv W c (n - c)) := hpv
        rw [← hpv]
        clear hpv
        by_cases hneg : pv < 0
        · have hnone : pgo n L A = none := by
            unfold pgo
            rw [if_pos HF.out]
            exact Rm.pg_none' (Rm.pg_no HS.out.1 (by rw [← HPV.out]; exact hneg)) (by omega)
          have HP : Hid (pcd n L A = 4 ∧ psd n L A = 0 ∧ pnp n L A = 0 ∧ pnc n L A = 0) := ⟨by simp [pcd, HF.out, hnone], pgo_none_all hnone⟩
          have HR : Hid (Blk wr w.heap.size #[.int .i64 0, .int .i64 0, .slice none 0 0, .slice none 0 0] 61) := HX.out.1.old HS.out.2.2.2.1
          clear hnone
          have r0 := HR.out.cell (j := 0) rfl
          have r1 := HR.out.cell (j := 1) rfl
          have r2 := HR.out.cell (j := 2) rfl
          have r3 := HR.out.cell (j := 3) rfl
          have rf := HR.out.frozen
          have rl := HR.out.lt
          go_wp2
          refine bodyPost_ret (res_of (cs := #[.int .i64 (4), .int .i64 0, .slice none 0 0, .slice none 0 0]) Try.results44 rfl (((((HR.out).set 0 _ rfl).set 1 _ rfl).set 2 _ rfl).set 3 _ rfl) Try.underlying61 (by kernel_rfl)) rfl ⟨.slice none 0 0, .slice none 0 0, by rw [HP.out.1, HP.out.2.1], by rw [HP.out.2.2.1, HP.out.2.2.2]; exact MeO.nil _ _ _ _ _, ?_⟩
          exact ((((HX.out.2.1.trans (HS.out.2.2.2.1.mono (by omega))).setCell (by simp) _).setCell (by simp) _).setCell (by simp) _).setCell (by simp) _
        · obtain ⟨p, hp⟩ : ∃ p : Nat, (p : Int) = pv := ⟨pv.toNat, by omega⟩
          have hpn : p < n := by have := Rm.pv_hi W c (n - c); rw [← HPV.out] at this; omega
          have HPP : Hid ((Rm.pv W c (n - c)).toNat = p ∧ 0 ≤ Rm.pv W c (n - c)) := ⟨by rw [← HPV.out]; omega, by rw [← HPV.out]; omega⟩
          rw [← hp]
          clear hneg HPV hp
          go_wp2_with fail
          refine (lift_any HS.out.2.1 HRes.out c p hcn hpn h24 (by have := HS.out.2.2.2.2; omega) (by have := HS.out.2.2.2.2; omega)).mono ?_
          rintro e w3 ⟨v2, rfl, hg3, ho3, hw3⟩
          have H3 : Hid (Gm X.heap.size w2.heap.size w3 m n (fun _ => n) (Rm.swp W c p) ∧ OwL w2.heap.size w3 u5 N ∧ OwL wr.heap.size w3 v2 (Rm.lift1 c p) ∧ Below X.heap.size X w3 ∧ w2.heap.size ≤ w3.heap.size) := by
            obtain ⟨s0, s1, s2, s3, s4⟩ := HS.out
            refine ⟨hg3, ?_, ho3, s3.trans hw3.below, by have := hw3.below.size; omega⟩
            refine ⟨s2.1, ?_⟩
            rcases s2.2 with h | ⟨g, cp, cur, hv, hg, hb, rest⟩
            · exact Or.inl h
            · exact Or.inr ⟨g, cp, cur, hv, hg, (hw3.above g hg (Array.getElem?_eq_some_iff.1 hb).1).trans hb, rest⟩
          have hl1 : (Rm.lift1 c p).length ≤ 1 := by unfold Rm.lift1; split <;> simp
          have zw3 : w2.heap.size ≤ w3.heap.size := H3.out.2.2.2.2
          clear hg3 ho3 hw3
          go_wp2_with (first | (at_builtin; refine appC rfl (.tmp 29) (.tmp 33) rfl w3 w2.heap.size u5 N (Rm.lift1 c p) rfl H3.out.2.1 wr.heap.size v2 H3.out.2.2.1 rfl (by omega) zw3 ?_; intro v4 w4 hown4 hgr4) | (go_at_call 84; fail))
          have H4 : Hid (Gm X.heap.size w2.heap.size w4 m n (fun _ => n) (Rm.swp W c p) ∧ OwL w2.heap.size w4 v4 (N ++ Rm.lift1 c p) ∧ Below X.heap.size X w4 ∧ w2.heap.size ≤ w4.heap.size) := by
            obtain ⟨s1, s2, s3, s4, s5⟩ := H3.out
            have hB : Below w2.heap.size w3 w4 := (Below.refl w2.heap.size w3).grown hgr4 s5 fun q hq => (World.ownsRow.lt s2 q hq).1
            exact ⟨s1.keep (fun q _ h2 => hB.block q h2), hown4, s4.trans (hB.mono z2), Nat.le_trans s5 hB.size⟩
          clear H3 hown4 hgr4 HS
          refine (clear_gd H4.out.1 (Rm.res_swp HRes.out hcn hpn) c hcn h24 (by have := H4.out.2.2.2; omega) (by have := H4.out.2.2.2; omega)).mono ?_
          rintro e w5 ⟨v5, rfl, hg5, ho5, hw5⟩
          have H5 : Hid (Gm X.heap.size w2.heap.size w5 m n (fun _ => n) (Rm.clrP (Rm.swp W c p) c n) ∧ OwL w2.heap.size w5 v4 (N ++ Rm.lift1 c p) ∧ OwL w4.heap.size w5 v5 (Rm.nk (Rm.swp W c p) c n) ∧ Below X.heap.size X w5 ∧ w2.heap.size ≤ w5.heap.size) := by
            obtain ⟨s1, s2, s3, s4⟩ := H4.out
            refine ⟨hg5, ?_, ho5, s3.trans hw5.below, by have := hw5.below.size; omega⟩
            refine ⟨s2.1, ?_⟩
            rcases s2.2 with h | ⟨g, cp, cur, hv, hg, hb, rest⟩
            · exact Or.inl h
            · exact Or.inr ⟨g, cp, cur, hv, hg, (hw5.above g hg (Array.getElem?_eq_some_iff.1 hb).1).trans hb, rest⟩
          have hl2 : (Rm.nk (Rm.swp W c p) c n).length ≤ 24 := by have := Rm.nk_len (Rm.swp W c p) c n; split at this <;> omega
          have zw5 : w2.heap.size ≤ w5.heap.size := H5.out.2.2.2.2
          clear hg5 ho5 hw5 H4
          go_wp2_with (first | (at_builtin; refine appC rfl (.tmp 35) (.tmp 38) rfl w5 w2.heap.size v4 (N ++ Rm.lift1 c p) (Rm.nk (Rm.swp W c p) c n) rfl H5.out.2.1 w4.heap.size v5 H5.out.2.2.1 rfl (by rw [List.length_append]; omega) zw5 ?_; intro v6 w6 hown6 hgr6))
          have HN : Hid (Rm.pg n (rsm A) (c + 1) = some (Rm.clrP (Rm.swp W c p) c n, (N ++ Rm.lift1 c p) ++ Rm.nk (Rm.swp W c p) c n) ∧ Gm X.heap.size w2.heap.size w6 m n (fun _ => n) (Rm.clrP (Rm.swp W c p) c n) ∧ OwL w2.heap.size w6 v6 ((N ++ Rm.lift1 c p) ++ Rm.nk (Rm.swp W c p) c n) ∧ Below X.heap.size X w6 ∧ w2.heap.size ≤ w6.heap.size) := by
            obtain ⟨s1, s2, s3, s4, s5⟩ := H5.out
            have hB : Below w2.heap.size w5 w6 := (Below.refl w2.heap.size w5).grown hgr6 s5 fun q hq => (World.ownsRow.lt s2 q hq).1
            refine ⟨?_, s1.keep (fun q _ h2 => hB.block q h2), hown6, s4.trans (hB.mono z2), Nat.le_trans s5 hB.size⟩
            have := Rm.pg_go HPG.out HPP.out.2
            rw [HPP.out.1] at this
            exact this
          clear H5 hown6 hgr6
          go_wp2
          exact ⟨⟨c + 1, _, _, by omega, by simp, HN⟩, by simp [intOf]; omega⟩
      · obtain rfl : c = n := by omega
        have HP : Hid (pcd c L A = 0 ∧ psd c L A = (c : Int) ∧ pnp c L A = c ∧ pnc c L A = N.length ∧ (∀ i, pph c L A i = W i i) ∧ (∀ i, pC c L A i = N.reverse.getD i Rm.nilC)) := by
          have hs : pgo c L A = some (W, N) := by unfold pgo; rw [if_pos HF.out]; exact HPG.out
          exact ⟨by simp [pcd, HF.out, hs], by simp [psd, hs], by simp [pnp, hs], by simp [pnc, hs], fun i => by simp [pph, hs], fun i => by simp [pC, hs]⟩
        obtain ⟨va, vc, hva⟩ := own_shape HS.out.2.2.1
        subst hva
        go_wp2_with fail
        refine (rev_own HS.out.2.2.1 (by omega)).mono ?_
        rintro e w3 ⟨rfl, hc3, hb3, hz3⟩
        have H3 : Hid (Gm X.heap.size w2.heap.size w3 m c (fun _ => c) W ∧ OwC w2.heap.size w3.heap.size w3 (.slice va N.length vc) N.length (fun i => N.reverse.getD i Rm.nilC) ∧ Below X.heap.size X w3 ∧ w2.heap.size ≤ w3.heap.size) := by
          obtain ⟨s0, s1, s2, s3, s4⟩ := HS.out
          exact ⟨s1.keep (fun q _ h2 => hb3.block q h2), hc3, s3.trans (hb3.mono z2), by omega⟩
        have hw2p : w2.heap.size ≤ w3.heap.size := H3.out.2.2.2
        clear HS hc3 hb3 hz3
        go_wp2_with fail
        refine (clearM_any c _ h0 h24).mono ?_
        rintro e w4 ⟨gp, rfl, hgp, hs4, hb4⟩
        have z4 := hb4.size
        have hgl4 : gp < w4.heap.size := hs4.lt
        obtain ⟨Y, hY⟩ : ∃ Y, Y = w4.alloc (.cells #[.int .i64 (c : Int), .slice (some ⟨gp, 0, none⟩) c c, .slice none 0 0] 49) := ⟨_, rfl⟩
        have HY : Hid (Blk Y w4.heap.size #[.int .i64 (c : Int), .slice (some ⟨gp, 0, none⟩) c c, .slice none 0 0] 49 ∧ Seg Y gp 2 0 c (fun i => .int .i64 (if i < 0 then W i i else 1)) ∧ Gm X.heap.size w2.heap.size Y m c (fun _ => c) W ∧ OwC w2.heap.size w3.heap.size Y (.slice va N.length vc) N.length (fun i => N.reverse.getD i Rm.nilC) ∧ Blk Y w.heap.size #[.int .i64 0, .int .i64 0, .slice none 0 0, .slice none 0 0] 61 ∧ Below X.heap.size X Y ∧ w4.heap.size < Y.heap.size ∧ w3.heap.size ≤ gp) := by
          obtain ⟨s1, s2, s3, s4⟩ := H3.out
          have hB : Below w3.heap.size w3 Y := by rw [hY]; exact hb4.alloc z4 _
          refine ⟨by rw [hY]; exact Blk.new rfl, ?_, s1.keep (fun q _ h2 => hB.block q (by omega)), s2.keep (Keep.of hB (Nat.le_refl _)), (HX.out.1.old s3).old hB, s3.trans (hB.mono (by have := s3.size; omega)), by rw [hY]; simp, hgp⟩
          rw [hY]
          exact (hs4.congr fun i _ => by simp).alloc _
        clear hs4 hb4
        go_wp2_with fail
        rw [← hY]
        clear hY H3
        go_loopw [48] (fun s wr => ∃ k : Nat, k ≤ c ∧ s = .int .i64 k ∧ Hid (Blk wr w4.heap.size #[.int .i64 (c : Int), .slice (some ⟨gp, 0, none⟩) c c, .slice none 0 0] 49 ∧ Seg wr gp 2 0 c (fun i => .int .i64 (if i < k then W i i else 1)) ∧ Gm X.heap.size w2.heap.size wr m c (fun _ => c) W ∧ OwC w2.heap.size w3.heap.size wr (.slice va N.length vc) N.length (fun i => N.reverse.getD i Rm.nilC) ∧ Blk wr w.heap.size #[.int .i64 0, .int .i64 0, .slice none 0 0, .slice none 0 0] 61 ∧ Below X.heap.size X wr ∧ wr.heap.size = Y.heap.size)) (fun s _ => c - (intOf s).toNat)
        case atStart => exact ⟨0, Nat.zero_le _, rfl, HY.out.1, HY.out.2.1, HY.out.2.2.1, HY.out.2.2.2.1, HY.out.2.2.2.2.1, HY.out.2.2.2.2.2.1, rfl⟩
        case round =>
          obtain ⟨k, hk, rfl, HS⟩ := hrel
          have hgp3 : w3.heap.size ≤ gp := HY.out.2.2.2.2.2.2.2
          have hw4Y : w4.heap.size < Y.heap.size := HY.out.2.2.2.2.2.2.1
          by_cases hkc : k < c
          · have b1 := HS.out.1.cell (j := 1) rfl
            have g1 : wr.cell? ⟨m.b, k, none⟩ = some (.slice (some ⟨m.bs k, m.os k, none⟩) c (m.cs k)) := HS.out.2.2.1.cellRow hkc
            have g2 : wr.cell? ⟨m.bs k, m.os k + k, none⟩ = some (.int .i64 (W k k)) := HS.out.2.2.1.cellAt hkc hkc
            have g3 : wr.cell? ⟨gp, k, none⟩ = some (.int .i64 1) := by have := HS.out.2.1.cell hkc; simpa using this
            have g4 : wr.frozen? ⟨gp, k, none⟩ = false := HS.out.2.1.frozen k
            have HN : Hid (Blk (wr.setCell ⟨gp, k, none⟩ (.int .i64 (W k k))) w4.heap.size #[.int .i64 (c : Int), .slice (some ⟨gp, 0, none⟩) c c, .slice none 0 0] 49 ∧ Seg (wr.setCell ⟨gp, k, none⟩ (.int .i64 (W k k))) gp 2 0 c (fun i => .int .i64 (if i < k + 1 then W i i else 1)) ∧ Gm X.heap.size w2.heap.size (wr.setCell ⟨gp, k, none⟩ (.int .i64 (W k k))) m c (fun _ => c) W ∧ OwC w2.heap.size w3.heap.size (wr.setCell ⟨gp, k, none⟩ (.int .i64 (W k k))) (.slice va N.length vc) N.length (fun i => N.reverse.getD i Rm.nilC) ∧ Blk (wr.setCell ⟨gp, k, none⟩ (.int .i64 (W k k))) w.heap.size #[.int .i64 0, .int .i64 0, .slice none 0 0, .slice none 0 0] 61 ∧ Below X.heap.size X (wr.setCell ⟨gp, k, none⟩ (.int .i64 (W k k))) ∧ (wr.setCell ⟨gp, k, none⟩ (.int .i64 (W k k))).heap.size = Y.heap.size) := by
              obtain ⟨s1, s2, s3, s4, s5, s6, s7⟩ := HS.out
              refine ⟨s1.setOther (p := ⟨gp, k, none⟩) (by show w4.heap.size ≠ gp; omega) _, ?_, s3.keep (fun q _ h2 => Below.heap_setCell _ _ _ _ (by show q ≠ gp; omega)), s4.keep (fun q _ h2 => Below.heap_setCell _ _ _ _ (by show q ≠ gp; omega)), s5.setOther (p := ⟨gp, k, none⟩) (by show w.heap.size ≠ gp; omega) _, s6.setCell (p := ⟨gp, k, none⟩) (by show X.heap.size ≤ gp; omega) _, by rw [World.size_setCell]; exact s7⟩
              have := s2.set k hkc (.int .i64 (W k k))
              rw [Nat.zero_add] at this
              refine this.congr fun i _ => ?_
              by_cases e : i = k
              · subst e; simp
              · by_cases e2 : i < k
                · simp [e, e2, Nat.lt_succ_of_lt e2]
                · have e3 : ¬ i < k + 1 := by omega
                  simp [e, e2, e3]
            clear HS
            go_wp2_with fail
            go_region
            have HN2 : Hid (Blk (wr.setCell ⟨gp, k, none⟩ (.int .i64 (W k k))).drew w4.heap.size #[.int .i64 (c : Int), .slice (some ⟨gp, 0, none⟩) c c, .slice none 0 0] 49 ∧ Seg (wr.setCell ⟨gp, k, none⟩ (.int .i64 (W k k))).drew gp 2 0 c (fun i => .int .i64 (if i < k + 1 then W i i else 1)) ∧ Gm X.heap.size w2.heap.size (wr.setCell ⟨gp, k, none⟩ (.int .i64 (W k k))).drew m c (fun _ => c) W ∧ OwC w2.heap.size w3.heap.size (wr.setCell ⟨gp, k, none⟩ (.int .i64 (W k k))).drew (.slice va N.length vc) N.length (fun i => N.reverse.getD i Rm.nilC) ∧ Blk (wr.setCell ⟨gp, k, none⟩ (.int .i64 (W k k))).drew w.heap.size #[.int .i64 0, .int .i64 0, .slice none 0 0, .slice none 0 0] 61 ∧ Below X.heap.size X (wr.setCell ⟨gp, k, none⟩ (.int .i64 (W k k))).drew ∧ (wr.setCell ⟨gp, k, none⟩ (.int .i64 (W k k))).drew.heap.size = Y.heap.size) := by
              obtain ⟨s1, s2, s3, s4, s5, s6, s7⟩ := HN.out
              exact ⟨s1.drew, s2.drew, s3.keep (fun _ _ _ => rfl), s4.keep (fun _ _ _ => rfl), s5.drew, s6.drew, (World.size_drew _).trans s7⟩
            clear HN
            go_wp2
            exact ⟨⟨k + 1, by omega, by simp, HN2⟩, by simp [intOf]; omega⟩
          · obtain rfl : k = c := by omega
            have b0 := HS.out.1.cell (j := 0) rfl
            have b1 := HS.out.1.cell (j := 1) rfl
            have b2 := HS.out.1.cell (j := 2) rfl
            have bf := HS.out.1.frozen
            have bl := HS.out.1.lt
            have r0 := HS.out.2.2.2.2.1.cell (j := 0) rfl
            have r1 := HS.out.2.2.2.2.1.cell (j := 1) rfl
            have r2 := HS.out.2.2.2.2.1.cell (j := 2) rfl
            have r3 := HS.out.2.2.2.2.1.cell (j := 3) rfl
            have rf := HS.out.2.2.2.2.1.frozen
            have rl := HS.out.2.2.2.2.1.lt
            have hwz : w.heap.size < w4.heap.size := by omega
            clear HY
            go_wp2
            refine bodyPost_ret (res_of (cs := #[.int .i64 0, .int .i64 (k : Int), .slice (some ⟨gp, 0, none⟩) k k, .slice va N.length vc]) Try.results44 rfl (((((HS.out.2.2.2.2.1.setOther (by simp; omega) _).set 0 _ rfl).set 1 _ rfl).set 2 _ rfl).set 3 _ rfl) Try.underlying61 (by kernel_rfl)) rfl ⟨_, _, by rw [HP.out.1, HP.out.2.1], ?_, ?_⟩
            · rw [HP.out.2.2.1, HP.out.2.2.2.1]
              obtain ⟨s1, s2, s3, s4, s5, s6, s7⟩ := HS.out
              have key : ∀ (q : Nat) (x0 x1 x2 x3 x4 : Value), q ≠ w4.heap.size → q ≠ w.heap.size → (((((wr.setCell ⟨w4.heap.size, 2, none⟩ x0).setCell ⟨w.heap.size, 0, none⟩ x1).setCell ⟨w.heap.size, 1, none⟩ x2).setCell ⟨w.heap.size, 2, none⟩ x3).setCell ⟨w.heap.size, 3, none⟩ x4).heap[q]? = wr.heap[q]? := fun q x0 x1 x2 x3 x4 h1 h2 => by
                rw [Below.heap_setCell _ _ _ _ h2, Below.heap_setCell _ _ _ _ h2, Below.heap_setCell _ _ _ _ h2, Below.heap_setCell _ _ _ _ h2, Below.heap_setCell _ _ _ _ h1]
              refine ⟨Or.inr ⟨gp, k, rfl, by omega, by simp; omega, ((s2.congr fun i hi => by rw [if_pos hi, ← HP.out.2.2.2.2.1 i]).of_block (key gp _ _ _ _ _ (by omega) (by omega)))⟩, ((s4.congr fun i _ => (HP.out.2.2.2.2.2 i).symm).keep (fun q h1 h2 => key q _ _ _ _ _ (by omega) (by omega))).wide (by omega) (by simp; omega)⟩
            · have h1 := HX.out.2.1.trans (HS.out.2.2.2.2.2.1.mono (by omega))
              repeat (first | exact h1 | (refine Below.setCell ?_ (by simp <;> omega) _))
  · have hne : (faultOf n L != 0) = true := by rw [bne_iff_ne]; exact hf
    have hnone : pgo n L A = none := by unfold pgo; rw [if_neg hf]
    have HP : Hid (pcd n L A = faultOf n L ∧ psd n L A = 0 ∧ pnp n L A = 0 ∧ pnc n L A = 0) := ⟨by simp [pcd, hf], pgo_none_all hnone⟩
    clear hnone hf HA HL
    have r0 := HX.out.1.cell (j := 0) rfl
    have r1 := HX.out.1.cell (j := 1) rfl
    have r2 := HX.out.1.cell (j := 2) rfl
    have r3 := HX.out.1.cell (j := 3) rfl
    have rf := HX.out.1.frozen
    have rl := HX.out.1.lt
    go_wp2
    refine bodyPost_ret (res_of (cs := #[.int .i64 (faultOf n L), .int .i64 0, .slice none 0 0, .slice none 0 0]) Try.results44 rfl (((((HX.out.1).set 0 _ rfl).set 1 _ rfl).set 2 _ rfl).set 3 _ rfl) Try.underlying61 (by kernel_rfl)) rfl ⟨.slice none 0 0, .slice none 0 0, by rw [HP.out.1, HP.out.2.1], by rw [HP.out.2.2.1, HP.out.2.2.2]; exact MeO.nil _ _ _ _ _, ?_⟩
    exact ((((HX.out.2.1).setCell (by simp) _).setCell (by simp) _).setCell (by simp) _).setCell (by simp) _
end Go.Proofs.Ytboppklcmdfphaa
