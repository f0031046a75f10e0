/- A system and a place out of drawn bytes. -/
import Derived.Test.YtdmjfphmgpkfcaaDm
import Derived.Test.YtdmjfphmgpkfcaaLwat
namespace Go.Proofs.Ytdmjfphmgpkfcaa
open Go.RowKit
set_option linter.unusedVariables false
set_option linter.unusedSimpArgs false
theorem RdB.form {w : World} {v : Value} {n : Nat} {g : Nat → Int} (h : RdB w v n g) : ∃ ao cap, v = .slice ao n cap := by
  rcases h with ⟨ao, cap, rfl, rfl⟩ | ⟨b, off, cap, rfl, _⟩
  · exact ⟨_, _, rfl⟩
  · exact ⟨_, _, rfl⟩
theorem RdB.later {w w' : World} {v : Value} {n : Nat} {g : Nat → Int} (h : RdB w v n g) (hb : Below w.heap.size w w') : RdB w' v n g := by
  rcases h with h | ⟨b, off, cap, rfl, h⟩
  · exact Or.inl h
  · exact Or.inr ⟨b, off, cap, rfl, fun i hi => kold hb (h i hi)⟩
set_option maxRecDepth 20000 in
set_option maxHeartbeats 6400000 in
theorem draw_any {w : World} {v : Value} {n : Nat} {g : Nat → Int} (hB : RdB w v n g) (hg : ∀ i, i < n → 0 ≤ g i ∧ g i ≤ 255) (hn : n ≤ 1000000000000) :
    Calls Try.prog 5 #[v] w fun e w' => ∃ (m : Mx) (x : Q), e = .returned (.tuple #[Mv m, .agg #[.int .i64 x.n, .int .i64 x.d]]) ∧ Below w.heap.size w w' := by
  obtain ⟨ao, cap, rfl⟩ := hB.form
  go_enter Try.func5, Try.ntmps5
  go_upto_region 1 with fail
  obtain ⟨v1, hv⟩ : ∃ X, X = (w.alloc (.cells #[.int .i64 0, .int .i64 0, .int .i64 0, .int .i64 0, .int .i64 0, .int .i64 0, .int .i64 0, .int .i64 0] 27)).alloc (.cells #[.int .i64 0, .int .i64 0] 25) := ⟨_, rfl⟩
  rw [← hv]
  have H1 : Hid (Below w.heap.size w v1) := by show Below _ _ _; rw [hv]; go_grown
  have BR : Hid (Blk v1 w.heap.size #[.int .i64 0, .int .i64 0, .int .i64 0, .int .i64 0, .int .i64 0, .int .i64 0, .int .i64 0, .int .i64 0] 27) := by show Blk _ _ _ _; rw [hv]; exact Blk.alloc (Blk.new rfl) _
  have BQ : Hid (Blk v1 (w.heap.size + 1) #[.int .i64 0, .int .i64 0] 25) := by show Blk _ _ _ _; rw [hv]; exact Blk.new (by simp)
  have HN : Hid (∀ p, Nexts v1 (.slice ao n cap) p) := fun p => nexts_of (hB.later H1.out) hg hn
  clear hv hB hg hn
  go_wp2_with fail
  refine (source_any ao n cap _).mono ?_
  rintro e v2 ⟨rfl, hw2⟩
  have HS : Hid (Src v1 v2 (.slice ao n cap) 0 v1.heap.size) := by rw [hw2]; exact src_new _ _
  have hnr : Hid (w.heap.size ≠ v1.heap.size) := Nat.ne_of_lt BR.out.lt
  have hnq : Hid (w.heap.size + 1 ≠ v1.heap.size) := Nat.ne_of_lt BQ.out.lt
  replace BR : Hid (Blk v2 w.heap.size #[.int .i64 0, .int .i64 0, .int .i64 0, .int .i64 0, .int .i64 0, .int .i64 0, .int .i64 0, .int .i64 0] 27) := by show Blk _ _ _ _; rw [hw2]; exact Blk.alloc BR.out _
  replace BQ : Hid (Blk v2 (w.heap.size + 1) #[.int .i64 0, .int .i64 0] 25) := by show Blk _ _ _ _; rw [hw2]; exact Blk.alloc BQ.out _
  clear hw2
  obtain ⟨p, hp⟩ : ∃ p, p = v1.heap.size := ⟨_, rfl⟩
  rw [← hp] at HS hnr hnq ⊢
  clear hp
  go_wp2_with fail
  refine (bentm_any _ _ _ _ _ HS.out (HN.out p) (by omega) (by omega)).mono ?_
  rintro e v3 ⟨m, k, rfl, ⟨k0, k1⟩, hs, hb⟩
  have HK : Hid (0 ≤ k ∧ k ≤ 70) := ⟨by omega, by omega⟩
  replace HS : Hid (Src v1 v3 (.slice ao n cap) k p) := hs
  replace BR : Hid (Blk v3 w.heap.size #[.int .i64 0, .int .i64 0, .int .i64 0, .int .i64 0, .int .i64 0, .int .i64 0, .int .i64 0, .int .i64 0] 27) := hb.keep BR.out hnr.out
  replace BQ : Hid (Blk v3 (w.heap.size + 1) #[.int .i64 0, .int .i64 0] 25) := hb.keep BQ.out hnq.out
  clear hs hb k0 k1
  have hnt : Hid (v3.heap.size ≠ p) := by show _ ≠ _; have := HS.out.lt; omega
  have htr : Hid (v3.heap.size ≠ w.heap.size) := by show _ ≠ _; have := BR.out.lt; omega
  have htq : Hid (v3.heap.size ≠ w.heap.size + 1) := by show _ ≠ _; have := BQ.out.lt; omega
  go_upto_region 3 with fail
  obtain ⟨v4, hv⟩ : ∃ X, X = v3.alloc (.cells #[.int .i64 m.A.n, .int .i64 m.A.d, .int .i64 m.B.n, .int .i64 m.B.d, .int .i64 m.C.n, .int .i64 m.C.d, .int .i64 m.D.n, .int .i64 m.D.d] 27) := ⟨_, rfl⟩
  rw [← hv]
  have BT : Hid (Blk v4 v3.heap.size #[.int .i64 m.A.n, .int .i64 m.A.d, .int .i64 m.B.n, .int .i64 m.B.d, .int .i64 m.C.n, .int .i64 m.C.d, .int .i64 m.D.n, .int .i64 m.D.d] 27) := by show Blk _ _ _ _; rw [hv]; exact Blk.new rfl
  replace HS : Hid (Src v1 v4 (.slice ao n cap) k p) := by rw [hv]; exact HS.out.alloc _
  replace BR : Hid (Blk v4 w.heap.size #[.int .i64 0, .int .i64 0, .int .i64 0, .int .i64 0, .int .i64 0, .int .i64 0, .int .i64 0, .int .i64 0] 27) := by show Blk _ _ _ _; rw [hv]; exact Blk.alloc BR.out _
  replace BQ : Hid (Blk v4 (w.heap.size + 1) #[.int .i64 0, .int .i64 0] 25) := by show Blk _ _ _ _; rw [hv]; exact Blk.alloc BQ.out _
  clear hv
  go_wp2_with fail
  refine (chance_any HS.out (HN.out p) (by have := HK.out; omega) (by have := HK.out; omega) 20 (by omega) (by omega)).mono ?_
  rintro e v5 ⟨b, rfl, hs, hb⟩
  replace HS : Hid (Src v1 v5 (.slice ao n cap) (k + 1) p) := hs
  replace BT : Hid (Blk v5 v3.heap.size #[.int .i64 m.A.n, .int .i64 m.A.d, .int .i64 m.B.n, .int .i64 m.B.d, .int .i64 m.C.n, .int .i64 m.C.d, .int .i64 m.D.n, .int .i64 m.D.d] 27) := hb.keep BT.out hnt.out
  replace BR : Hid (Blk v5 w.heap.size #[.int .i64 0, .int .i64 0, .int .i64 0, .int .i64 0, .int .i64 0, .int .i64 0, .int .i64 0, .int .i64 0] 27) := hb.keep BR.out hnr.out
  replace BQ : Hid (Blk v5 (w.heap.size + 1) #[.int .i64 0, .int .i64 0] 25) := hb.keep BQ.out hnq.out
  clear hs hb
  have k0 : ∀ W, Blk W v3.heap.size #[.int .i64 m.A.n, .int .i64 m.A.d, .int .i64 m.B.n, .int .i64 m.B.d, .int .i64 m.C.n, .int .i64 m.C.d, .int .i64 m.D.n, .int .i64 m.D.d] 27 → W.cell? ⟨v3.heap.size, 0, none⟩ = some (.int .i64 m.A.n) := fun _ h => h.cell (j := 0) rfl
  have k1 : ∀ W, Blk W v3.heap.size #[.int .i64 m.A.n, .int .i64 m.A.d, .int .i64 m.B.n, .int .i64 m.B.d, .int .i64 m.C.n, .int .i64 m.C.d, .int .i64 m.D.n, .int .i64 m.D.d] 27 → W.cell? ⟨v3.heap.size, 1, none⟩ = some (.int .i64 m.A.d) := fun _ h => h.cell (j := 1) rfl
  have k2 : ∀ W, Blk W v3.heap.size #[.int .i64 m.A.n, .int .i64 m.A.d, .int .i64 m.B.n, .int .i64 m.B.d, .int .i64 m.C.n, .int .i64 m.C.d, .int .i64 m.D.n, .int .i64 m.D.d] 27 → W.cell? ⟨v3.heap.size, 2, none⟩ = some (.int .i64 m.B.n) := fun _ h => h.cell (j := 2) rfl
  have k3 : ∀ W, Blk W v3.heap.size #[.int .i64 m.A.n, .int .i64 m.A.d, .int .i64 m.B.n, .int .i64 m.B.d, .int .i64 m.C.n, .int .i64 m.C.d, .int .i64 m.D.n, .int .i64 m.D.d] 27 → W.cell? ⟨v3.heap.size, 3, none⟩ = some (.int .i64 m.B.d) := fun _ h => h.cell (j := 3) rfl
  have k4 : ∀ W, Blk W v3.heap.size #[.int .i64 m.A.n, .int .i64 m.A.d, .int .i64 m.B.n, .int .i64 m.B.d, .int .i64 m.C.n, .int .i64 m.C.d, .int .i64 m.D.n, .int .i64 m.D.d] 27 → W.cell? ⟨v3.heap.size, 4, none⟩ = some (.int .i64 m.C.n) := fun _ h => h.cell (j := 4) rfl
  have k5 : ∀ W, Blk W v3.heap.size #[.int .i64 m.A.n, .int .i64 m.A.d, .int .i64 m.B.n, .int .i64 m.B.d, .int .i64 m.C.n, .int .i64 m.C.d, .int .i64 m.D.n, .int .i64 m.D.d] 27 → W.cell? ⟨v3.heap.size, 5, none⟩ = some (.int .i64 m.C.d) := fun _ h => h.cell (j := 5) rfl
  have k6 : ∀ W, Blk W v3.heap.size #[.int .i64 m.A.n, .int .i64 m.A.d, .int .i64 m.B.n, .int .i64 m.B.d, .int .i64 m.C.n, .int .i64 m.C.d, .int .i64 m.D.n, .int .i64 m.D.d] 27 → W.cell? ⟨v3.heap.size, 6, none⟩ = some (.int .i64 m.D.n) := fun _ h => h.cell (j := 6) rfl
  have k7 : ∀ W, Blk W v3.heap.size #[.int .i64 m.A.n, .int .i64 m.A.d, .int .i64 m.B.n, .int .i64 m.B.d, .int .i64 m.C.n, .int .i64 m.C.d, .int .i64 m.D.n, .int .i64 m.D.d] 27 → W.cell? ⟨v3.heap.size, 7, none⟩ = some (.int .i64 m.D.d) := fun _ h => h.cell (j := 7) rfl
  have hx0 := BT.out
  cases b with
  | true =>
    go_upto_region 4 with fail
    go_region_held (fun W => Blk W v3.heap.size #[.int .i64 m.A.n, .int .i64 m.A.d, .int .i64 m.B.n, .int .i64 m.B.d, .int .i64 m.C.n, .int .i64 m.C.d, .int .i64 m.D.n, .int .i64 m.D.d] 27) (first | with_reducible assumption | with_reducible exact Blk.drew ‹_› | with_reducible exact (Blk.setOther (Blk.setOther (Blk.setOther (Blk.setOther (Blk.setOther (Blk.setOther (Blk.setOther (Blk.setOther ‹_› htr.out _) htr.out _) htr.out _) htr.out _) htr.out _) htr.out _) htr.out _) htr.out _) | with_reducible exact (Blk.setOther (Blk.setOther ‹_› htq.out _) htq.out _))
      (first | (go_at_call 13; refine (bent_any _ _ _ _ _ (Src.drew HS.out) (HN.out p) (by have := HK.out; omega) (by have := HK.out; omega)).mono ?_; rintro e w1 ⟨x, k2, rfl, _, _, hs1, hb1⟩; have hR1 : Blk w1 v3.heap.size #[.int .i64 m.A.n, .int .i64 m.A.d, .int .i64 m.B.n, .int .i64 m.B.d, .int .i64 m.C.n, .int .i64 m.C.d, .int .i64 m.D.n, .int .i64 m.D.d] 27 := hb1.keep BT.out hnt.out; have BR1 : Blk w1 w.heap.size #[.int .i64 0, .int .i64 0, .int .i64 0, .int .i64 0, .int .i64 0, .int .i64 0, .int .i64 0, .int .i64 0] 27 := hb1.keep BR.out hnr.out; have BQ1 : Blk w1 (w.heap.size + 1) #[.int .i64 0, .int .i64 0] 25 := hb1.keep BQ.out hnq.out; have HB1 : Hid (Below v1.heap.size v1 w1) := hs1.below; clear hs1 hb1; have c0 := BR1.cell (j := 0) rfl; have c1 := BR1.cell (j := 1) rfl; have c2 := BR1.cell (j := 2) rfl; have c3 := BR1.cell (j := 3) rfl; have c4 := BR1.cell (j := 4) rfl; have c5 := BR1.cell (j := 5) rfl; have c6 := BR1.cell (j := 6) rfl; have c7 := BR1.cell (j := 7) rfl; have d0 := BQ1.cell (j := 0) rfl; have d1 := BQ1.cell (j := 1) rfl; have cf := BR1.frozen; have df := BQ1.frozen; have cz := BR1.lt; have dz := BQ1.lt))
    all_goals
      go_wp2
      refine bodyPost_ret (v := .tuple #[Mv m, .agg #[.int .i64 x.n, .int .i64 x.d]]) (by simp [results, Try.results5, go_sem, c0, c1, c2, c3, c4, c5, c6, c7, d0, d1, cf, df, cz, dz] <;> (repeat' (first | rfl | apply And.intro))) rfl ⟨m, x, rfl, ?_⟩
      have h := H1.out.trans (HB1.out.mono H1.out.size)
      go_grown
  | false =>
    go_upto_region 5 with fail
    go_region_held (fun W => Blk W v3.heap.size #[.int .i64 m.A.n, .int .i64 m.A.d, .int .i64 m.B.n, .int .i64 m.B.d, .int .i64 m.C.n, .int .i64 m.C.d, .int .i64 m.D.n, .int .i64 m.D.d] 27) (first | with_reducible assumption | with_reducible exact Blk.drew ‹_› | with_reducible exact (Blk.setOther (Blk.setOther (Blk.setOther (Blk.setOther (Blk.setOther (Blk.setOther (Blk.setOther (Blk.setOther ‹_› htr.out _) htr.out _) htr.out _) htr.out _) htr.out _) htr.out _) htr.out _) htr.out _) | with_reducible exact (Blk.setOther (Blk.setOther ‹_› htq.out _) htq.out _))
      (first | (go_at_call 14; refine (plain_any _ _ _ _ _ (Src.drew HS.out) (HN.out p) (by have := HK.out; omega) (by have := HK.out; omega)).mono ?_; rintro e w1 ⟨x, k2, rfl, _, _, hs1, hb1⟩; have hR1 : Blk w1 v3.heap.size #[.int .i64 m.A.n, .int .i64 m.A.d, .int .i64 m.B.n, .int .i64 m.B.d, .int .i64 m.C.n, .int .i64 m.C.d, .int .i64 m.D.n, .int .i64 m.D.d] 27 := hb1.keep BT.out hnt.out; have BR1 : Blk w1 w.heap.size #[.int .i64 0, .int .i64 0, .int .i64 0, .int .i64 0, .int .i64 0, .int .i64 0, .int .i64 0, .int .i64 0] 27 := hb1.keep BR.out hnr.out; have BQ1 : Blk w1 (w.heap.size + 1) #[.int .i64 0, .int .i64 0] 25 := hb1.keep BQ.out hnq.out; have HB1 : Hid (Below v1.heap.size v1 w1) := hs1.below; clear hs1 hb1; have c0 := BR1.cell (j := 0) rfl; have c1 := BR1.cell (j := 1) rfl; have c2 := BR1.cell (j := 2) rfl; have c3 := BR1.cell (j := 3) rfl; have c4 := BR1.cell (j := 4) rfl; have c5 := BR1.cell (j := 5) rfl; have c6 := BR1.cell (j := 6) rfl; have c7 := BR1.cell (j := 7) rfl; have d0 := BQ1.cell (j := 0) rfl; have d1 := BQ1.cell (j := 1) rfl; have cf := BR1.frozen; have df := BQ1.frozen; have cz := BR1.lt; have dz := BQ1.lt))
    all_goals
      go_wp2
      refine bodyPost_ret (v := .tuple #[Mv m, .agg #[.int .i64 x.n, .int .i64 x.d]]) (by simp [results, Try.results5, go_sem, c0, c1, c2, c3, c4, c5, c6, c7, d0, d1, cf, df, cz, dz] <;> (repeat' (first | rfl | apply And.intro))) rfl ⟨m, x, rfl, ?_⟩
      have h := H1.out.trans (HB1.out.mono H1.out.size)
      go_grown
end Go.Proofs.Ytdmjfphmgpkfcaa
