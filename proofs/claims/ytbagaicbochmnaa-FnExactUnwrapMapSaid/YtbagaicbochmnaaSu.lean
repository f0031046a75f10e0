/- spec.UnwrapMap. -/
import Derived.Test.YtbagaicbochmnaaSv
namespace Go.Proofs.Ytbagaicbochmnaa
open Go.RowKit
set_option linter.unusedVariables false
theorem Mat.evenS {lo hi : Nat} {w : World} {l : Lie} {n k : Nat} {L : Nat → Nat} {F : Rm.Mx} (h : Mat lo hi w l n L F) (e : ∀ i, i < n → L i = k) : Mat lo hi w l n (fun _ => k) F :=
  ⟨h.top.congr fun i hi => by simp [Lie.row, e i hi], fun i hi => by have := h.row i hi; rwa [e i hi] at this, h.blo, h.bhi, h.rlo, h.rhi, h.apart⟩
set_option maxHeartbeats 4000000 in
set_option maxRecDepth 100000 in
theorem sUwm_any {lo hi : Nat} {w : World} {l : Lie} {n : Nat} {L : Nat → Nat} {F : Rm.Mx} (h : Mat lo hi w l n L F) (hn : n ≤ 1000000000000) (hL : ∀ i, i < n → L i ≤ 1000000000000) (hhi : hi ≤ w.heap.size) :
    Calls Try.prog 44 #[.slice (some ⟨l.b, 0, none⟩) n l.cap] w fun e w' => ∃ v, e = .returned (.agg #[.int .i64 (mapc n L), v]) ∧ OutM w' (mapc n L) v n (L 0) (uwm F) ∧ Below w.heap.size w w' := by
  obtain ⟨X, hX⟩ : ∃ X, X = w.alloc (.cells #[.int .i64 0, .slice none 0 0] 47) := ⟨_, rfl⟩
  have HM : Hid (Mat lo hi X l n L F) := by show Mat lo hi X _ _ _ _; rw [hX]; exact h.alloc _ hhi
  have HB : Hid (Below w.heap.size w X) := by show Below _ _ X; rw [hX]; exact (Below.refl _ _).alloc (Nat.le_refl _) _
  have BX : Hid (Blk X w.heap.size #[.int .i64 0, .slice none 0 0] 47) := by show Blk X _ _ _; rw [hX]; exact Blk.new rfl
  have HL : Hid (∀ i, i < n → L i ≤ 9223372036854775807) := fun i hi => by have := hL i hi; omega
  clear h hL
  go_enter Try.func44, Try.ntmps44
  go_wp2_with fail
  rw [← hX]
  clear hX
  refine (sMap_any _ _ _ _ L _ (by omega) HL.out HM.out.tops).mono ?_
  rintro e V ⟨q0, rfl, hV⟩
  have BV : Hid (Blk V w.heap.size #[.int .i64 0, .slice none 0 0] 47) := by show Blk V _ _ _; rw [hV]; exact BX.out.drewN q0
  have HV : Hid (Below w.heap.size w V) := by show Below _ _ V; rw [hV]; exact below_drewN HB.out q0
  have MV : Hid (Mat lo hi V l n L F) := by show Mat lo hi V _ _ _ _; rw [hV]; exact HM.out.keep fun k _ _ => rfl
  clear hV HM HB BX
  by_cases hc : mapc n L = 0
  · obtain ⟨hn0, hn32, hl0, hl32, hE⟩ := mapc_right hc
    have M0 : Hid (Mat lo hi V l n (fun _ => L 0) F) := MV.out.evenS hE
    have HCC : Hid (mapc n L = 0) := hc
    rw [hc]
    clear hc hE
    obtain ⟨m, hm⟩ : ∃ m, m = L 0 := ⟨_, rfl⟩
    rw [← hm] at hl0 hl32 M0
    have HMM : Hid (m = L 0) := hm
    clear MV HL hm
    go_wp2_with fail
    refine (sCol_any M0.out 0 hl0 hn0 (by omega) (by omega)).mono ?_
    rintro e w2 ⟨gc, cc, rfl, hg2, hs2, hb2⟩
    have H2 : Hid (Seg w2 gc 2 0 n (fun i => .int .i64 (F i 0)) ∧ Below V.heap.size V w2) := ⟨hs2, hb2⟩
    clear hg2 hs2 hb2
    go_wp2_with fail
    refine (sUnw_any H2.out.1.rd (by omega)).mono ?_
    rintro e w3 ⟨uf, rfl, hu3, hb3⟩
    obtain ⟨gf, cf, huf, hsf⟩ : ∃ g c, uf = .slice (some ⟨g, 0, none⟩) n c ∧ Seg w3 g 2 0 n (fun i => .int .i64 (unw (fun r => F r 0) i)) := by
      rcases hu3 with ⟨h0, _⟩ | ⟨g, c, e, _, _, _, hs⟩
      · omega
      · exact ⟨g, c, e, hs⟩
    subst huf
    have H3 : Hid (Seg w3 gf 2 0 n (fun i => .int .i64 (unw (fun r => F r 0) i)) ∧ Below V.heap.size V w3) := ⟨hsf, H2.out.2.trans (hb3.mono H2.out.2.size)⟩
    clear hu3 hb3 hsf H2
    go_wp2_with fail
    go_loopw [5, 6] (fun v c wx => ∃ (i : Nat) (vs : Nat → Value), i ≤ n ∧ c = .int .i64 i ∧ Hid (Up w3 wx i m (uwm F) v vs)) (fun _ c _ => n - (intOf c).toNat)
    case atStart => exact ⟨0, fun _ => .nilIface, Nat.zero_le _, rfl, up_start w3 _ _ _⟩
    case round =>
      obtain ⟨i, vs, hi1, rfl, HU⟩ := hrel
      have b3 : Below w3.heap.size w3 wr := HU.out.below
      have z3 := b3.size
      by_cases hin : i < n
      · have MR : Hid (Mat lo hi wr l n (fun _ => m) F) := M0.out.keep fun k _ h2 => by
          have h3 := (H3.out.2.trans (b3.mono H3.out.2.size))
          have : k < V.heap.size := by have := HV.out.size; omega
          exact h3.block k this
        have g0 : wr.cell? ⟨l.b, i, none⟩ = some (.slice (some ⟨l.bs i, l.os i, none⟩) m (l.cs i)) := MR.out.cellRow hin
        have g1 : wr.cell? ⟨gf, i, none⟩ = some (.int .i64 (unw (fun r => F r 0) i)) := by simpa using (H3.out.1.of_block (b3.block _ H3.out.1.lt)).cell hin
        have HR : Hid (∀ c, c < m → wr.drew.cell? ⟨l.bs i, l.os i + c, none⟩ = some (.int .i64 (F i c))) := fun c hc => MR.out.cellAt hin hc
        clear b3
        go_wp2_with fail
        go_region_law (first | (go_simp; go_at_call 75; refine (sOn_any _ _ _ m _ (F i) wr.drew hl0 (by omega) HR.out).mono ?_; rintro e wy ⟨g, c, rfl, hgy, hcy, hsy, hbd⟩; have hby : Below wr.heap.size wr wy := (Below.refl _ wr).drew.trans hbd) | (refine step_push rfl (.tmp 23) (.tmp 33) 22 rfl 34 (.slice none 0 0) 24 Try.underlying22 info38 rfl (by decide) wy (.slice (some ⟨g, 0, none⟩) m c) rfl rfl w3.heap.size u5 i ((List.range i).map vs) (by simp [Act.eval]) (by exact owns_later HU.out.own hby) 1 (by simp [Act.eval]) (by omega) (by have := hby.size; omega) ?_; intro v1 w1 hown1 hgrow1))
        all_goals
          have HN : Hid (Up w3 w1 (i + 1) m (uwm F) v1 (fun r => if r = i then .slice (some ⟨g, 0, none⟩) m c else vs r)) := up_step HU.out hby hgy hcy hsy hown1 hgrow1
          clear hown1 hgrow1 hgy hcy hsy hby hbd
          go_wp2
          exact ⟨⟨i + 1, _, by omega, by simp, HN⟩, by simp [intOf]; omega⟩
      · obtain rfl : i = n := by omega
        obtain ⟨g, cg, hv, hgb, hcg, hs⟩ := owned_seg2 HU.out.own hn0
        subst hv
        have BW : Hid (Blk wr w.heap.size #[.int .i64 0, .slice none 0 0] 47) := BV.out.old (H3.out.2.trans (b3.mono H3.out.2.size))
        have HF : Hid (RdMat wr (.slice (some ⟨g, 0, none⟩) i cg) i (fun _ => m) (uwm F) ∧ Below w.heap.size w wr) := ⟨up_rd HU.out, HV.out.trans ((H3.out.2.trans (b3.mono H3.out.2.size)).mono HV.out.size)⟩
        have c0 := BW.out.cell (j := 0) rfl
        have c1 := BW.out.cell (j := 1) rfl
        have f0 := BW.out.frozen 0
        have f1 := BW.out.frozen 1
        have HLT : Hid (w3.heap.size ≤ g ∧ w.heap.size < w3.heap.size) := ⟨hgb, Nat.lt_of_lt_of_le BV.out.lt H3.out.2.size⟩
        have HRW : Hid (∀ r, r < i → ∃ g cap, vs r = .slice (some ⟨g, 0, none⟩) m cap ∧ w3.heap.size ≤ g ∧ m ≤ cap ∧ Seg wr g 2 0 m (fun c => .int .i64 (uwm F r c))) := HU.out.rows
        have HSG : Hid (Seg wr g 34 0 i vs) := hs
        clear hgb hcg hs HU
        go_wp2
        refine bodyPost_ret (v := .agg #[.int .i64 0, .slice (some ⟨g, 0, none⟩) i cg]) (by simp [results, Try.results44, go_sem, c0, c1]) rfl ⟨_, by rw [HCC.out], Or.inr ⟨⟨HCC.out, hn0⟩, ?_⟩, ?_⟩
        · rw [← HMM.out]
          refine Or.inr ⟨g, 0, cg, vs, rfl, fun r hr => ⟨?_, ?_⟩⟩
          · exact ((HSG.out.setOther (a := ⟨w.heap.size, 0, none⟩) (by show g ≠ w.heap.size; have := HLT.out; omega) _).setOther (a := ⟨w.heap.size, 1, none⟩) (by show g ≠ w.heap.size; have := HLT.out; omega) _).cell hr
          · obtain ⟨g', cp', e1, e2, _, e4⟩ := HRW.out r hr
            rw [e1]
            exact ((e4.setOther (a := ⟨w.heap.size, 0, none⟩) (by show g' ≠ w.heap.size; have := HLT.out; omega) _).setOther (a := ⟨w.heap.size, 1, none⟩) (by show g' ≠ w.heap.size; have := HLT.out; omega) _).rd
        · exact (HF.out.2.setCell (p := ⟨w.heap.size, 0, none⟩) (Nat.le_refl _) _).setCell (p := ⟨w.heap.size, 1, none⟩) (Nat.le_refl _) _
  · have hc0 : (mapc n L != 0) = true := by rw [bne_iff_ne]; exact hc
    have H0 : Hid (mapc n L ≠ 0) := hc
    obtain ⟨code, hcode⟩ : ∃ c, c = mapc n L := ⟨_, rfl⟩
    have HCO : Hid (code = mapc n L) := hcode
    rw [← hcode] at hc0 ⊢
    clear hc MV HL hcode
    have c0 := BV.out.cell (j := 0) rfl
    have c1 := BV.out.cell (j := 1) rfl
    have f0 := BV.out.frozen 0
    have f1 := BV.out.frozen 1
    go_wp2
    refine bodyPost_ret (v := .agg #[.int .i64 code, .slice none 0 0]) (by simp [results, Try.results44, go_sem, c0, c1]) rfl ⟨_, by rw [HCO.out], Or.inl ⟨Or.inl H0.out, none, 0, rfl⟩, ?_⟩
    exact (HV.out.setCell (p := ⟨w.heap.size, 0, none⟩) (Nat.le_refl _) _).setCell (p := ⟨w.heap.size, 1, none⟩) (Nat.le_refl _) _
end Go.Proofs.Ytbagaicbochmnaa
